"""Asks: points 2, 4, 51, 52 and 57, and how they hear houses, point 54."""

import unittest

from threeroofs.asks import READ, WRITE, Ask, Asks
from threeroofs.errors import NoAsk

NO_ASKS = [0, -1, 3, 10 ** 30, True, False, None, "", "1", 1.0, [], [1], (), (1,), {}, {1: 1}, {1}, b"1"]
STATE = {"x": (2, "v"), "y": (1, None)}
AHEAD = [("y", 1), ("x", 2), ("x", 1), ("z", 1)]


def a_write(enough):
    return Ask(WRITE, "x", 7, enough, STATE, [])


def a_read(enough):
    return Ask(READ, "x", 7, enough, {}, AHEAD)


def told_of(ask):
    return (ask.status(), ask.found(), ask.missed())


class Beginning(unittest.TestCase):
    def test_a_write(self):
        for enough in range(1, 6):
            self.assertEqual(told_of(a_write(enough)), ("open", STATE, []))

    def test_a_read(self):
        for enough in range(1, 6):
            self.assertEqual(told_of(a_read(enough)), ("open", {}, AHEAD))

    def test_a_read_ahead_of_which_nothing_lies(self):
        self.assertEqual(told_of(Ask(READ, "x", 7, 1, {}, [])), ("open", {}, []))

    def test_whose_it_is_and_of_which_thing(self):
        self.assertEqual((a_write(1).kind, a_write(1).asker, a_write(1).key), ("write", "x", 7))
        self.assertEqual((a_read(1).kind, a_read(1).asker, a_read(1).key), ("read", "x", 7))


class Hearing(unittest.TestCase):
    def test_a_write_is_done_by_as_many_houses_as_it_must_hear(self):
        for enough in range(1, 6):
            ask = a_write(enough)
            for number in range(1, 7):
                self.assertIs(ask.hear(f"a.1.{number}", {}), number == enough)
                self.assertEqual(told_of(ask), ("done" if number >= enough else "open", STATE, []))

    def test_a_house_is_heard_once(self):
        ask = a_write(2)
        for time in range(3):
            self.assertIs(ask.hear("a.1.a", {}), False)
            self.assertEqual(ask.status(), "open")
        self.assertIs(ask.hear("a.1.b", {}), True)
        self.assertEqual(ask.status(), "done")

    def test_a_read_joins_what_it_hears(self):
        ask = a_read(3)
        self.assertIs(ask.hear("a.1.a", {"x": (1, "u")}), False)
        self.assertEqual(told_of(ask), ("open", {"x": (1, "u")}, [("y", 1), ("x", 2), ("z", 1)]))
        self.assertIs(ask.hear("a.1.b", {}), False)
        self.assertEqual(told_of(ask), ("open", {"x": (1, "u")}, [("y", 1), ("x", 2), ("z", 1)]))
        self.assertIs(ask.hear("a.1.c", {"x": (2, "v"), "y": (1, None)}), True)
        self.assertEqual(told_of(ask), ("done", {"x": (2, "v"), "y": (1, None)}, [("z", 1)]))

    def test_what_a_house_says_again_is_not_joined(self):
        ask = a_read(2)
        ask.hear("a.1.a", {})
        ask.hear("a.1.a", STATE)
        self.assertEqual(told_of(ask), ("open", {}, AHEAD))

    def test_a_done_read_changes_no_more(self):
        ask = a_read(1)
        ask.hear("a.1.a", {"z": (4, "w")})
        self.assertIs(ask.hear("a.1.b", STATE), False)
        ask.break_off()
        self.assertEqual(told_of(ask), ("done", {"z": (4, "w")}, [("y", 1), ("x", 2), ("x", 1)]))

    def test_a_read_that_misses_nothing(self):
        ask = a_read(1)
        ask.hear("a.1.a", {"x": (5, None), "y": (1, "w"), "z": (1, "v")})
        self.assertEqual(ask.missed(), [])


class Breaking(unittest.TestCase):
    def test_an_open_ask_is_broken_and_stays_so(self):
        ask = a_read(2)
        ask.hear("a.1.a", {"x": (1, "u")})
        ask.break_off()
        wanted = ("broken", {"x": (1, "u")}, [("y", 1), ("x", 2), ("z", 1)])
        self.assertEqual(told_of(ask), wanted)
        self.assertIs(ask.hear("a.1.b", STATE), False)
        ask.break_off()
        self.assertEqual(told_of(ask), wanted)

    def test_a_broken_write_keeps_what_it_has_found(self):
        ask = a_write(1)
        ask.break_off()
        self.assertIs(ask.hear("a.1.a", {}), False)
        self.assertEqual(told_of(ask), ("broken", STATE, []))


class AsksCase(unittest.TestCase):
    def setUp(self):
        self.asks = Asks()

    def done_write(self, asker, key, state):
        number = self.asks.begin_write(asker, key, 1, state)
        self.asks.ask_of(number).hear("a.1.a", {})
        return number

    def missed(self, number):
        return self.asks.ask_of(number).missed()


class Numbers(AsksCase):
    def test_reads_and_writes_are_numbered_by_one_count_from_1_on(self):
        self.assertEqual(self.asks.begin_write("x", 7, 2, STATE), 1)
        self.assertEqual(self.asks.begin_read("y", 8, 1), 2)
        self.assertEqual(self.asks.begin_read("x", 7, 1), 3)
        self.assertEqual(self.asks.begin_write("y", 7, 1, {"y": (1, "w")}), 4)
        asks = [self.asks.ask_of(number) for number in range(1, 5)]
        self.assertEqual([(ask.kind, ask.asker, ask.key) for ask in asks],
                         [("write", "x", 7), ("read", "y", 8), ("read", "x", 7), ("write", "y", 7)])
        self.assertEqual([told_of(ask) for ask in asks],
                         [("open", STATE, []), ("open", {}, []), ("open", {}, []), ("open", {"y": (1, "w")}, [])])

    def test_each_must_hear_as_many_as_was_said(self):
        for enough in range(1, 6):
            for number in (self.asks.begin_write("x", 7, enough, STATE), self.asks.begin_read("x", 7, enough)):
                ask = self.asks.ask_of(number)
                self.assertEqual([ask.hear(f"a.1.{house}", {}) for house in range(enough)], [False] * (enough - 1) + [True])

    def test_two_counts_have_nothing_to_do_with_one_another(self):
        self.asks.begin_read("x", 7, 1)
        other = Asks()
        with self.assertRaises(NoAsk):
            other.ask_of(1)
        self.assertEqual(other.begin_read("y", 8, 1), 1)
        self.assertEqual(self.asks.ask_of(1).asker, "x")

    def test_no_ask(self):
        self.asks.begin_write("x", 7, 1, STATE)
        self.asks.begin_read("x", 7, 1)
        for number in NO_ASKS:
            with self.subTest(number=number):
                with self.assertRaises(NoAsk) as taken:
                    self.asks.ask_of(number)
                self.assertIs(type(taken.exception.ask), type(number))
                self.assertEqual(taken.exception.ask, number)
        self.assertEqual(self.asks.begin_read("x", 7, 1), 3)

    def test_no_ask_where_none_has_begun(self):
        for number in (0, 1, -1):
            with self.assertRaises(NoAsk):
                self.asks.ask_of(number)


class LyingAhead(AsksCase):
    def test_done_writes_of_any_asker_in_the_order_of_their_numbers(self):
        self.done_write("y", 7, {"y": (3, "w"), "x": (9, None)})
        late = self.asks.begin_write("z", 7, 1, {"z": (1, "v")})
        self.done_write("x", 7, {"x": (2, "v"), "y": (8, None)})
        self.done_write("y", 7, {"y": (4, "u")})
        self.asks.ask_of(late).hear("b.1.a", {})
        self.assertEqual(self.missed(self.asks.begin_read("z", 7, 1)), [("y", 3), ("z", 1), ("x", 2), ("y", 4)])

    def test_not_those_that_are_open_or_broken(self):
        self.asks.begin_write("x", 7, 1, {"x": (1, "v")})
        self.assertEqual(self.missed(self.asks.begin_read("z", 7, 1)), [])
        self.asks.ask_of(1).break_off()
        self.assertEqual(self.missed(self.asks.begin_read("z", 7, 1)), [])

    def test_not_those_of_another_thing(self):
        self.done_write("x", 8, {"x": (1, "v")})
        self.done_write("x", 117, {"x": (1, "v")})
        self.assertEqual(self.missed(self.asks.begin_read("z", 7, 1)), [])

    def test_no_reads(self):
        self.asks.ask_of(self.asks.begin_read("x", 7, 1)).hear("a.1.a", {"x": (1, "v")})
        self.assertEqual(self.missed(self.asks.begin_read("x", 7, 1)), [])

    def test_not_what_is_done_behind_the_reads_beginning(self):
        number = self.asks.begin_read("z", 7, 1)
        self.done_write("x", 7, {"x": (1, "v")})
        self.assertEqual(self.missed(number), [])
        self.assertEqual(self.missed(self.asks.begin_read("z", 7, 1)), [("x", 1)])


class BreakingOfAThing(AsksCase):
    def test_each_open_ask_of_that_thing_and_no_other(self):
        self.asks.begin_write("x", 7, 2, STATE)
        self.asks.begin_read("x", 7, 1)
        self.asks.begin_read("x", 8, 1)
        self.done_write("y", 7, {"y": (1, "w")})
        self.asks.begin_write("x", 117, 1, STATE)
        self.asks.break_all(7)
        self.asks.begin_read("x", 7, 1)
        words = [self.asks.ask_of(number).status() for number in range(1, 7)]
        self.assertEqual(words, ["broken", "broken", "open", "done", "open", "open"])


class TheAskersOwn(AsksCase):
    def test_what_is_handed_in_may_be_changed_later(self):
        state = {"x": (1, "v")}
        heard = {"y": (1, "w")}
        ahead = [("y", 2)]
        self.asks.begin_write("x", 7, 1, state)
        ask = Ask(READ, "x", 7, 2, {}, ahead)
        ask.hear("a.1.a", heard)
        state.clear()
        heard["y"] = (2, "u")
        ahead.clear()
        self.assertEqual(self.asks.ask_of(1).found(), {"x": (1, "v")})
        self.assertEqual(told_of(ask), ("open", {"y": (1, "w")}, [("y", 2)]))

    def test_what_is_handed_in_stays_as_it_is(self):
        heard = {"y": (1, "w")}
        ask = a_read(3)
        ask.hear("a.1.a", heard)
        ask.hear("a.1.b", {"y": (2, "u")})
        ask.missed()
        self.assertEqual(heard, {"y": (1, "w")})
        self.assertEqual(AHEAD, [("y", 1), ("x", 2), ("x", 1), ("z", 1)])

    def test_what_is_given_is_the_askers_own(self):
        for ask, wanted in ((a_write(2), ("open", STATE, [])), (a_read(2), ("open", {}, AHEAD))):
            ask.found().clear()
            ask.found()["q"] = (1, "v")
            ask.missed().clear()
            self.assertEqual(told_of(ask), wanted)

    def test_what_was_given_stays_as_it_is(self):
        ask = a_read(2)
        before = told_of(ask)
        ask.hear("a.1.a", STATE)
        self.assertEqual(before, ("open", {}, AHEAD))


if __name__ == "__main__":
    unittest.main()
