"""What is known of a thing: points 2 and 40 to 44."""

import itertools
import random
import unittest

from threeroofs.knowing import covers, joined, knows, marks, standing, written

from samples import turned

GREAT = 10 ** 29 + 7


def all_states(askers, most):
    """Each state of these askers with counts up to so many, one value for each count of an asker."""
    entries = [None]
    for count in range(1, most + 1):
        entries += [(count, True), (count, False)]
    for choice in itertools.product(entries, repeat=len(askers)):
        state = {}
        for asker, entry in zip(askers, choice):
            if entry is not None:
                state[asker] = (entry[0], f"{asker}{entry[0]}" if entry[1] else None)
        yield state


def joined_by_the_rule(one, other):
    state = {}
    for asker in set(one) | set(other):
        entries = [known[asker] for known in (one, other) if asker in known]
        count = max(entry[0] for entry in entries)
        values = [entry[1] for entry in entries if entry[0] == count]
        state[asker] = (count, None if None in values else values[0])
    return state


class Joining(unittest.TestCase):
    def joins(self, one, other, wanted):
        self.assertEqual(joined(one, other), wanted)
        self.assertEqual(joined(other, one), wanted)

    def test_an_entry_that_only_one_has(self):
        self.joins({"x": (1, "v")}, {"y": (2, None)}, {"x": (1, "v"), "y": (2, None)})
        self.joins({"x": (3, None)}, {"x": (3, None), "y": (2, "w")}, {"x": (3, None), "y": (2, "w")})

    def test_the_greater_count_is_taken_whole(self):
        self.joins({"x": (1, "v")}, {"x": (2, "w")}, {"x": (2, "w")})
        self.joins({"x": (1, None)}, {"x": (2, "w")}, {"x": (2, "w")})
        self.joins({"x": (1, "v")}, {"x": (2, None)}, {"x": (2, None)})
        self.joins({"x": (1, None)}, {"x": (2, None)}, {"x": (2, None)})

    def test_counts_are_ordered_as_numbers(self):
        self.joins({"x": (9, "v")}, {"x": (10, "w")}, {"x": (10, "w")})
        self.joins({"x": (GREAT, "v")}, {"x": (GREAT + 1, None)}, {"x": (GREAT + 1, None)})

    def test_the_same_count(self):
        self.joins({"x": (4, "v")}, {"x": (4, "v")}, {"x": (4, "v")})
        self.joins({"x": (4, None)}, {"x": (4, "v")}, {"x": (4, None)})
        self.joins({"x": (4, None)}, {"x": (4, None)}, {"x": (4, None)})
        self.joins({"x": (GREAT, None)}, {"x": (GREAT, "v")}, {"x": (GREAT, None)})

    def test_asker_by_asker(self):
        one = {"x": (3, None), "y": (1, "a"), "z": (2, "b")}
        other = {"x": (2, "c"), "y": (1, None), "w": (5, "d")}
        self.joins(one, other, {"x": (3, None), "y": (1, None), "z": (2, "b"), "w": (5, "d")})

    def test_the_state_that_knows_nothing(self):
        self.joins({}, {}, {})
        self.joins({}, {"x": (1, "v"), "y": (2, None)}, {"x": (1, "v"), "y": (2, None)})

    def test_all_small_states(self):
        states = list(all_states(["x", "y"], 3))
        for one, other in itertools.product(states, states):
            told = joined(one, other)
            self.assertIs(type(told), dict)
            self.assertEqual(told, joined_by_the_rule(one, other), (one, other))
            self.assertEqual(joined(turned(one), turned(other)), told)

    def test_in_whatever_order_and_however_often(self):
        states = list(all_states(["x", "y"], 2))
        for one, other, third in itertools.product(states, states, states):
            self.assertEqual(joined(joined(one, other), third), joined(one, joined(other, third)))
        for one, other in itertools.product(states, states):
            self.assertEqual(joined(one, other), joined(other, one))
            self.assertEqual(joined(joined(one, other), other), joined(one, other))


class Writing(unittest.TestCase):
    def test_an_asker_without_an_entry(self):
        self.assertEqual(written({}, "x", "v"), {"x": (1, "v")})
        self.assertEqual(written({"y": (3, "w")}, "x", "v"), {"x": (1, "v"), "y": (3, None)})

    def test_an_asker_whose_entry_has_a_value(self):
        self.assertEqual(written({"x": (1, "v")}, "x", "w"), {"x": (2, "w")})
        self.assertEqual(written({"x": (1, "v")}, "x", "v"), {"x": (2, "v")})

    def test_an_asker_whose_entry_has_none(self):
        self.assertEqual(written({"x": (4, None), "y": (1, "v")}, "x", "w"), {"x": (5, "w"), "y": (1, None)})

    def test_every_other_entry_is_written_over(self):
        state = {"a": (1, "v"), "b": (2, None), "c": (3, "w")}
        self.assertEqual(written(state, "d", "z"), {"a": (1, None), "b": (2, None), "c": (3, None), "d": (1, "z")})

    def test_great_counts(self):
        self.assertEqual(written({"x": (GREAT, None)}, "x", "v"), {"x": (GREAT + 1, "v")})
        self.assertEqual(written({"y": (GREAT, "w")}, "x", "v"), {"x": (1, "v"), "y": (GREAT, None)})

    def test_all_small_states(self):
        for state in all_states(["x", "y"], 3):
            for asker in ("x", "y", "z"):
                told = written(state, asker, "!")
                self.assertEqual(sorted(told), sorted(set(state) | {asker}))
                self.assertEqual(standing(told), [(asker, state.get(asker, (0, None))[0] + 1, "!")])
                for name in state:
                    if name != asker:
                        self.assertEqual(told[name], (state[name][0], None))
                self.assertTrue(covers(told, state))
                self.assertFalse(covers(state, told))


class Standing(unittest.TestCase):
    def test_nothing_stands(self):
        self.assertEqual(standing({}), [])
        self.assertEqual(standing({"x": (3, None)}), [])

    def test_those_that_have_a_value(self):
        state = {"y": (2, "w"), "z": (4, None), "x": (1, "v")}
        self.assertEqual(standing(state), [("x", 1, "v"), ("y", 2, "w")])
        self.assertEqual(standing(turned(state)), [("x", 1, "v"), ("y", 2, "w")])

    def test_the_order_of_texts(self):
        askers = ["0", "01", "1", "10", "2", "9z", "a", "a0", "a1", "aa", "aaa", "ab", "b", "z", "z9", "zz"]
        chooser = random.Random(43)
        for time in range(20):
            state = {asker: (3, "v") for asker in chooser.sample(askers, len(askers))}
            self.assertEqual([asker for asker, count, value in standing(state)], askers)

    def test_a_list_of_tuples(self):
        told = standing({"x": (GREAT, "v")})
        self.assertIs(type(told), list)
        self.assertIs(type(told[0]), tuple)
        self.assertEqual(told, [("x", GREAT, "v")])


class Knowing(unittest.TestCase):
    def test_below_at_and_beyond(self):
        for value in ("v", None):
            for known in (1, 2, 5, GREAT):
                state = {"x": (known, value), "y": (known + 7, "w")}
                for count in (1, known - 1, known, known + 1, known + 6):
                    if count > 0:
                        self.assertIs(knows(state, "x", count), count <= known, (known, count))

    def test_an_asker_without_an_entry(self):
        for count in (1, 2, GREAT):
            self.assertIs(knows({}, "x", count), False)
            self.assertIs(knows({"xx": (9, "v"), "y": (9, None)}, "x", count), False)


class Covering(unittest.TestCase):
    def test_both_ways(self):
        one = {"x": (2, "v"), "y": (1, None)}
        other = {"x": (1, "u"), "y": (1, "w")}
        self.assertIs(covers(one, other), True)
        self.assertIs(covers(other, one), False)

    def test_neither_way(self):
        one = {"x": (2, "v"), "y": (1, "w")}
        other = {"x": (1, "u"), "y": (2, "z")}
        self.assertIs(covers(one, other), False)
        self.assertIs(covers(other, one), False)
        self.assertIs(covers({"x": (1, "v")}, {"y": (1, "v")}), False)
        self.assertIs(covers({"x": (1, None), "y": (1, "v")}, {"x": (1, "u"), "y": (1, None)}), False)

    def test_equal_states(self):
        for state in all_states(["x", "y"], 2):
            self.assertIs(covers(state, turned(state)), True)

    def test_the_state_that_knows_nothing(self):
        self.assertIs(covers({}, {}), True)
        for state in ({"x": (1, "v")}, {"x": (1, None)}, {"x": (GREAT, None), "y": (1, "w")}):
            self.assertIs(covers(state, {}), True)
            self.assertIs(covers({}, state), False)

    def test_the_same_count(self):
        self.assertIs(covers({"x": (1, None)}, {"x": (1, "v")}), True)
        self.assertIs(covers({"x": (1, "v")}, {"x": (1, None)}), False)
        self.assertIs(covers({"x": (1, None)}, {"x": (1, None)}), True)

    def covers_by_the_rule(self, one, other):
        for asker, (count, value) in other.items():
            mine = one.get(asker, (0, None))
            if mine[0] < count or (mine[0] == count and mine[1] not in (None, value)):
                return False
        return True

    def test_all_small_states(self):
        states = list(all_states(["x", "y"], 3))
        for one, other in itertools.product(states, states):
            wanted = self.covers_by_the_rule(one, other)
            self.assertIs(covers(one, other), wanted, (one, other))
            self.assertIs(joined(one, other) == one, wanted)
            self.assertIs(covers(joined(one, other), other), True)


class Marks(unittest.TestCase):
    def test_the_state_that_knows_nothing(self):
        self.assertEqual(marks({}), ())
        self.assertIs(type(marks({})), tuple)

    def test_writes_that_stand_and_those_written_over(self):
        self.assertEqual(marks({"x": (1, "v")}), (("x", 1),))
        self.assertEqual(marks({"x": (1, None)}), (("x", 2),))
        self.assertEqual(marks({"x": (2, "v")}), (("x", 3),))
        self.assertEqual(marks({"x": (GREAT, "v"), "y": (GREAT, None)}), (("x", 2 * GREAT - 1), ("y", 2 * GREAT)))

    def test_the_order_of_askers(self):
        state = {"b": (1, "v"), "a0": (4, None), "aa": (2, "w"), "9": (3, None), "a": (5, "u")}
        wanted = (("9", 6), ("a", 9), ("a0", 8), ("aa", 3), ("b", 1))
        self.assertEqual(marks(state), wanted)
        self.assertEqual(marks(turned(state)), wanted)

    def test_a_tuple_of_tuples(self):
        told = marks({"x": (1, "v"), "y": (2, None)})
        self.assertEqual([type(told)] + [type(mark) for mark in told], [tuple] * 3)

    def test_alike_just_where_the_states_are_equal(self):
        states = list(all_states(["x", "y"], 3))
        for one, other in itertools.product(states, states):
            self.assertIs(marks(one) == marks(turned(other)), one == other, (one, other))


class TheAskersOwn(unittest.TestCase):
    def setUp(self):
        self.one = {"y": (2, "w"), "x": (1, "v")}
        self.other = {"z": (3, None), "x": (1, None)}

    def test_what_is_handed_in_stays_as_it_is(self):
        joined(self.one, self.other)
        joined(self.other, self.one)
        written(self.one, "x", "u")
        written(self.one, "q", "u")
        standing(self.one)
        knows(self.one, "q", 1)
        covers(self.one, self.other)
        marks(self.one)
        self.assertEqual(list(self.one.items()), [("y", (2, "w")), ("x", (1, "v"))])
        self.assertEqual(list(self.other.items()), [("z", (3, None)), ("x", (1, None))])

    def test_what_is_done_to_what_was_given_changes_nothing(self):
        for one, other in ((self.one, {}), ({}, self.one), (self.one, self.one), (self.one, self.other)):
            joined(one, other).clear()
            joined(one, other)["q"] = (1, "v")
        written(self.one, "x", "u").clear()
        standing(self.one).clear()
        self.assertEqual(self.one, {"y": (2, "w"), "x": (1, "v")})
        self.assertEqual(self.other, {"z": (3, None), "x": (1, None)})
        joined({}, {})["x"] = (1, "v")
        self.assertEqual(joined({}, {}), {})

    def test_what_was_given_stays_as_it_is(self):
        told = [joined(self.one, {}), joined({}, self.one), written(self.one, "x", "u"), standing(self.one)]
        self.one.clear()
        self.other.clear()
        self.assertEqual(told[0], {"y": (2, "w"), "x": (1, "v")})
        self.assertEqual(told[1], {"y": (2, "w"), "x": (1, "v")})
        self.assertEqual(told[2], {"y": (2, None), "x": (2, "u")})
        self.assertEqual(told[3], [("x", 1, "v"), ("y", 2, "w")])


if __name__ == "__main__":
    unittest.main()
