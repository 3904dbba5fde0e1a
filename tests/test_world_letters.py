"""Askers, asks and letters: points 51 to 54."""

import itertools
import unittest

from threeroofs.errors import NoAsker, NoLetter, NoThing, NoValue
from threeroofs.world import World

from plain import told_of
from samples import A, B, C, D, E, FIVE, NO_NUMBERS, NO_VALUES, NO_WORDS, refused

V = {"x": (1, "v")}


def world_of(copies, reads, writes):
    world = World(FIVE)
    world.declare(0, copies, reads, writes)
    return world


def labels(world):
    return [(label, ask, house) for number, label, ask, house, key in world.letters()]


def bring_all(world, numbers):
    for number in numbers:
        world.bring(number)


class WorldCase(unittest.TestCase):
    def setUp(self):
        self.world = world_of(3, 2, 2)

    def told(self):
        return told_of(self.world, ["x", "y"])


class Writing(WorldCase):
    def test_a_put_to_each_home_in_their_order(self):
        self.assertEqual(self.world.write("x", 0, "v"), 1)
        self.assertEqual(self.world.letters(), [(1, "put", 1, A, 0), (2, "put", 1, B, 0), (3, "put", 1, C, 0)])

    def test_the_order_of_the_homes_is_not_that_of_the_names(self):
        world = World({"a.1.a": (4,), "b.1.a": (2,), "c.1.a": (0,)})
        world.declare(110, 3, 1, 1)
        world.write("x", 110, "v")
        world.read("x", 110)
        self.assertEqual(world.letters(), [
            (1, "put", 1, "c.1.a", 110), (2, "put", 1, "b.1.a", 110), (3, "put", 1, "a.1.a", 110),
            (4, "query", 2, "c.1.a", 110), (5, "query", 2, "b.1.a", 110), (6, "query", 2, "a.1.a", 110)])

    def test_those_that_are_away_too(self):
        self.world.fall(B)
        self.world.write("x", 0, "v")
        self.world.read("x", 0)
        self.assertEqual(labels(self.world), [("put", 1, A), ("put", 1, B), ("put", 1, C),
                                              ("query", 2, A), ("query", 2, B), ("query", 2, C)])

    def test_what_the_asker_knows_then(self):
        self.assertEqual(self.world.known("x", 0), {})
        self.world.write("x", 0, "v")
        self.assertEqual(self.world.known("x", 0), V)
        self.world.write("x", 0, "w")
        self.assertEqual(self.world.known("x", 0), {"x": (2, "w")})
        self.assertEqual(self.world.known("y", 0), {})
        self.world.write("y", 0, "u")
        self.assertEqual(self.world.known("y", 0), {"y": (1, "u")})

    def test_each_thing_is_known_by_itself(self):
        self.world.declare(110, 3, 2, 2)
        self.world.write("x", 0, "v")
        self.assertEqual(self.world.known("x", 110), {})
        self.world.write("x", 110, "w")
        self.assertEqual(self.world.known("x", 110), {"x": (1, "w")})
        self.assertEqual(self.world.known("x", 0), V)

    def test_the_puts_bear_the_state_of_their_own_write(self):
        self.world.write("x", 0, "v")
        self.world.write("x", 0, "w")
        self.assertEqual((self.world.found(1), self.world.found(2)), (V, {"x": (2, "w")}))
        self.world.bring(1)
        self.assertEqual(self.world.shelf(A, 0), V)
        self.world.bring(4)
        self.assertEqual(self.world.shelf(A, 0), {"x": (2, "w")})
        self.world.bring(5)
        self.world.bring(2)
        self.assertEqual(self.world.shelf(B, 0), {"x": (2, "w")})

    def test_writes_that_did_not_know_of_one_another_stand_side_by_side(self):
        self.world.write("x", 0, "v")
        self.world.write("y", 0, "w")
        bring_all(self.world, [1, 4])
        self.assertEqual(self.world.shelf(A, 0), {"x": (1, "v"), "y": (1, "w")})

    def test_one_who_has_read_writes_over(self):
        world = world_of(1, 1, 1)
        world.write("x", 0, "v")
        bring_all(world, [1, 2])
        world.read("y", 0)
        bring_all(world, [3, 4])
        self.assertEqual(world.known("y", 0), V)
        world.write("y", 0, "w")
        self.assertEqual(world.known("y", 0), {"x": (1, None), "y": (1, "w")})
        world.bring(5)
        self.assertEqual(world.shelf(A, 0), {"x": (1, None), "y": (1, "w")})

    def test_the_longest_and_shortest_names_and_values(self):
        for asker, value in (("x", "!"), ("abcdefgh", "~" * 40), ("0", "="), ("12345678", "v:w>x/y.1")):
            number = self.world.write(asker, 0, value)
            self.assertEqual(self.world.found(number), {asker: (1, value)})


class Numbers(WorldCase):
    def test_asks_by_one_count(self):
        self.world.declare(7, 2, 1, 1)
        self.assertEqual([self.world.read("x", 0), self.world.write("y", 7, "v"), self.world.write("x", 0, "v"),
                          self.world.read("y", 7)], [1, 2, 3, 4])

    def test_letters_by_one_count(self):
        self.world.read("x", 0)
        self.world.write("y", 0, "v")
        self.world.bring(1)
        self.world.twice(2)
        self.world.bring(4)
        self.assertEqual(self.world.letters(), [
            (2, "query", 1, B, 0), (3, "query", 1, C, 0), (5, "put", 2, B, 0), (6, "put", 2, C, 0),
            (7, "told", 1, A, 0), (8, "query", 1, B, 0), (9, "ack", 2, A, 0)])

    def test_no_number_is_given_twice(self):
        self.world.write("x", 0, "v")
        for number in (1, 2, 3):
            self.world.lose(number)
        self.world.read("x", 0)
        self.assertEqual([letter[0] for letter in self.world.letters()], [4, 5, 6])


class RefusedAsks(WorldCase):
    def tearDown(self):
        self.assertEqual(self.told(), told_of(world_of(3, 2, 2), ["x", "y"]))
        self.assertEqual(self.world.write("x", 0, "v"), 1)
        self.assertEqual(self.world.known("x", 0), V)

    def test_no_asker(self):
        for asker in NO_WORDS:
            with self.subTest(asker=asker):
                refused(self, NoAsker, "asker", asker, self.world.write, asker, 0, "v")
                refused(self, NoAsker, "asker", asker, self.world.read, asker, 0)
                refused(self, NoAsker, "asker", asker, self.world.known, asker, 0)

    def test_no_asker_ahead_of_no_thing_and_no_value(self):
        for asker in NO_WORDS:
            refused(self, NoAsker, "asker", asker, self.world.write, asker, 5, "")
            refused(self, NoAsker, "asker", asker, self.world.write, asker, 0, "")
            refused(self, NoAsker, "asker", asker, self.world.read, asker, 5)
            refused(self, NoAsker, "asker", asker, self.world.known, asker, None)

    def test_no_thing_ahead_of_no_value(self):
        for value in NO_VALUES:
            refused(self, NoThing, "thing", 5, self.world.write, "x", 5, value)

    def test_no_value(self):
        for value in NO_VALUES:
            with self.subTest(value=value):
                with self.assertRaises(NoValue) as taken:
                    self.world.write("x", 0, value)
                self.assertIs(taken.exception.__class__, NoValue)


class Lying(WorldCase):
    """What lies ahead of a read: what it has missed as long as it has heard nobody."""

    def done_write(self, asker, value):
        number = self.world.write(asker, 0, value)
        for label in ("put", "ack"):
            for letter in self.world.letters():
                if (letter[1], letter[2]) == (label, number):
                    self.world.bring(letter[0])
        self.assertEqual(self.world.status(number), "done")

    def test_done_writes_of_any_asker_by_their_numbers(self):
        self.done_write("y", "v")
        late = self.world.write("z", 0, "v")
        self.done_write("x", "v")
        self.done_write("y", "w")
        number = self.world.read("x", 0)
        self.assertEqual(self.world.missed(number), [("y", 1), ("x", 1), ("y", 2)])
        for label in ("put", "ack"):
            for letter in self.world.letters():
                if (letter[1], letter[2]) == (label, late):
                    self.world.bring(letter[0])
        self.assertEqual(self.world.missed(number), [("y", 1), ("x", 1), ("y", 2)])
        self.assertEqual(self.world.missed(self.world.read("x", 0)), [("y", 1), ("z", 1), ("x", 1), ("y", 2)])

    def test_not_those_of_another_thing(self):
        self.world.declare(110, 3, 2, 2)
        self.done_write("x", "v")
        self.assertEqual(self.world.missed(self.world.read("x", 110)), [])

    def test_not_one_that_too_few_have_acked(self):
        self.world.write("x", 0, "v")
        bring_all(self.world, [1, 2, 3, 4])
        self.assertEqual(self.world.missed(self.world.read("y", 0)), [])
        self.world.bring(5)
        self.assertEqual(self.world.missed(2), [])
        self.assertEqual(self.world.missed(self.world.read("y", 0)), [("x", 1)])


class PutsBrought(WorldCase):
    def test_to_a_home(self):
        self.world.write("x", 0, "v")
        self.assertIsNone(self.world.bring(2))
        self.assertEqual([self.world.shelf(house, 0) for house in FIVE], [{}, V, {}, {}, {}])
        self.assertEqual(self.world.letters(), [(1, "put", 1, A, 0), (3, "put", 1, C, 0), (4, "ack", 1, B, 0)])
        self.assertEqual(self.world.status(1), "open")

    def test_twice(self):
        self.world.write("x", 0, "v")
        self.world.twice(1)
        bring_all(self.world, [1, 4])
        self.assertEqual(self.world.shelf(A, 0), V)
        self.assertEqual(labels(self.world), [("put", 1, B), ("put", 1, C), ("ack", 1, A), ("ack", 1, A)])

    def test_behind_the_end_of_its_ask(self):
        self.world.write("x", 0, "v")
        bring_all(self.world, [1, 2, 4, 5])
        self.assertEqual(self.world.status(1), "done")
        self.world.bring(3)
        self.assertEqual(self.world.shelf(C, 0), V)
        self.assertEqual(labels(self.world), [("ack", 1, C)])

    def test_to_a_house_that_is_no_home(self):
        self.world.write("x", 0, "v")
        self.world.rehouse({"d.1.a": (0,), "e.1.a": (1,), "a.1.a": (9,), "b.1.a": (2,)})
        self.assertEqual(self.world.homes(0), [D, E, B])
        before = self.told()
        bring_all(self.world, [1, 3])
        self.assertEqual(self.told(), {**before, "letters": [(2, "put", 1, B, 0)]})

    def test_to_a_house_that_is_no_home_and_away(self):
        self.world.write("x", 0, "v")
        self.world.rehouse({"d.1.a": (0,), "e.1.a": (1,), "a.1.a": (9,), "b.1.a": (2,)})
        self.world.fall(A)
        self.world.bring(1)
        self.assertEqual((self.world.hints(), labels(self.world)), ([], [("put", 1, B), ("put", 1, C)]))

    def test_to_a_home_that_is_away(self):
        self.world.write("x", 0, "v")
        self.world.fall(A)
        self.world.bring(1)
        self.assertEqual(self.world.shelf(A, 0), {})
        self.assertEqual(self.world.hints(), [(D, A, 0, V)])
        self.assertEqual(labels(self.world), [("put", 1, B), ("put", 1, C)])

    def test_of_a_thing_whose_drawer_is_anothers_too(self):
        self.world.declare(110, 3, 2, 2)
        self.world.write("x", 110, "v")
        self.world.bring(1)
        self.assertEqual((self.world.shelf(A, 0), self.world.shelf(A, 110)), ({}, V))
        self.assertEqual(self.world.letters()[-1], (4, "ack", 1, A, 110))


class HintsBrought(WorldCase):
    def setUp(self):
        """Hint 4, for A, is on its way."""
        WorldCase.setUp(self)
        self.world.write("x", 0, "v")
        self.world.fall(A)
        self.world.bring(1)
        self.world.rise(A)

    def test_to_a_home(self):
        self.assertEqual(self.world.letters()[-1], (4, "hint", None, A, 0))
        self.world.bring(4)
        self.assertEqual(self.world.shelf(A, 0), V)
        self.assertEqual(labels(self.world), [("put", 1, B), ("put", 1, C)])
        self.assertEqual(self.world.status(1), "open")

    def test_it_is_joined(self):
        self.world.write("y", 0, "w")
        self.world.bring(5)
        self.world.bring(4)
        self.assertEqual(self.world.shelf(A, 0), {"x": (1, "v"), "y": (1, "w")})

    def test_to_a_home_that_is_away(self):
        self.world.fall(A)
        self.world.bring(4)
        self.assertEqual((self.world.shelf(A, 0), self.world.hints()), ({}, [(D, A, 0, V)]))

    def test_to_a_house_that_is_no_home(self):
        self.world.rehouse({"d.1.a": (0,), "e.1.a": (1,), "a.1.a": (9,), "b.1.a": (2,)})
        self.world.bring(4)
        self.assertEqual(self.world.shelf(A, 0), {})
        self.assertEqual(labels(self.world), [("put", 1, B), ("put", 1, C)])

    def test_twice_and_lost(self):
        self.world.twice(4)
        self.assertEqual(self.world.letters()[-2:], [(4, "hint", None, A, 0), (5, "hint", None, A, 0)])
        self.world.lose(4)
        self.assertEqual((self.world.shelf(A, 0), self.world.hints()), ({}, []))
        self.world.bring(5)
        self.assertEqual(self.world.shelf(A, 0), V)


class QueriesBrought(WorldCase):
    def test_to_a_home(self):
        self.world.read("x", 0)
        self.world.bring(2)
        self.assertEqual(self.world.letters(), [(1, "query", 1, A, 0), (3, "query", 1, C, 0), (4, "told", 1, B, 0)])

    def test_the_told_bears_what_the_shelf_had_then(self):
        self.world.write("x", 0, "v")
        self.world.read("y", 0)
        bring_all(self.world, [4, 1, 7])
        self.assertEqual((self.world.found(2), self.world.shelf(A, 0)), ({}, V))
        bring_all(self.world, [2, 5, 10])
        self.assertEqual(self.world.found(2), V)

    def test_twice(self):
        self.world.read("x", 0)
        self.world.twice(1)
        bring_all(self.world, [1, 4])
        self.assertEqual(labels(self.world), [("query", 1, B), ("query", 1, C), ("told", 1, A), ("told", 1, A)])

    def test_to_a_home_that_is_away(self):
        self.world.read("x", 0)
        self.world.fall(A)
        self.world.bring(1)
        self.assertEqual((labels(self.world), self.world.hints()), ([("query", 1, B), ("query", 1, C)], []))

    def test_to_a_house_that_is_no_home(self):
        self.world.read("x", 0)
        self.world.rehouse({"d.1.a": (0,), "e.1.a": (1,), "a.1.a": (9,), "b.1.a": (2,)})
        bring_all(self.world, [1, 3])
        self.assertEqual(labels(self.world), [("query", 1, B)])

    def test_behind_the_end_of_its_ask(self):
        self.world.read("x", 0)
        bring_all(self.world, [1, 2, 4, 5])
        self.assertEqual(self.world.status(1), "done")
        self.world.bring(3)
        self.assertEqual(labels(self.world), [("told", 1, C)])


class AcksBrought(WorldCase):
    def test_as_many_as_a_write_must_hear(self):
        for copies in range(1, 6):
            for writes in range(1, copies + 1):
                world = world_of(copies, 1, writes)
                world.write("x", 0, "v")
                bring_all(world, range(1, copies + 1))
                for heard in range(1, copies + 1):
                    world.bring(copies + heard)
                    self.assertEqual(world.status(1), "done" if heard >= writes else "open")

    def test_a_house_is_heard_once(self):
        self.world.write("x", 0, "v")
        self.world.twice(1)
        bring_all(self.world, [1, 4])
        self.world.twice(5)
        bring_all(self.world, [5, 6, 7])
        self.assertEqual(self.world.status(1), "open")
        self.world.bring(2)
        self.world.bring(8)
        self.assertEqual(self.world.status(1), "done")

    def test_from_a_house_that_is_away_meanwhile(self):
        world = world_of(1, 1, 1)
        world.write("x", 0, "v")
        world.bring(1)
        world.fall(A)
        world.bring(2)
        self.assertEqual(world.status(1), "done")

    def test_behind_the_end_nothing_comes_of_it(self):
        self.world.write("x", 0, "v")
        bring_all(self.world, [1, 2, 3, 4, 5])
        before = self.told()
        self.world.bring(6)
        self.assertEqual(self.told(), {**before, "letters": []})

    def test_it_changes_neither_what_was_found_nor_what_is_known(self):
        self.world.write("x", 0, "v")
        self.world.write("x", 0, "w")
        bring_all(self.world, [1, 2, 7, 8])
        self.assertEqual(self.world.status(1), "done")
        self.assertEqual((self.world.found(1), self.world.known("x", 0)), (V, {"x": (2, "w")}))


class ToldsBrought(WorldCase):
    def setUp(self):
        """The write is at A alone; the tolds 8, 9 and 10 come from A, B and C."""
        WorldCase.setUp(self)
        self.world.write("x", 0, "v")
        self.world.bring(1)
        self.world.lose(4)
        self.world.read("y", 0)
        bring_all(self.world, [5, 6, 7])
        self.assertEqual(labels(self.world)[2:], [("told", 2, A), ("told", 2, B), ("told", 2, C)])

    def test_as_many_as_a_read_must_hear(self):
        for copies in range(1, 6):
            for reads in range(1, copies + 1):
                world = world_of(copies, reads, 1)
                world.read("x", 0)
                bring_all(world, range(1, copies + 1))
                for heard in range(1, copies + 1):
                    world.bring(copies + heard)
                    self.assertEqual(world.status(1), "done" if heard >= reads else "open")

    def test_what_the_asker_knows_behind_the_end_and_not_ahead_of_it(self):
        self.world.bring(8)
        self.assertEqual((self.world.status(2), self.world.found(2), self.world.known("y", 0)), ("open", V, {}))
        self.world.bring(9)
        self.assertEqual((self.world.status(2), self.world.found(2), self.world.known("y", 0)), ("done", V, V))
        self.assertEqual(self.world.known("z", 0), {})

    def test_behind_the_end_nothing_comes_of_it(self):
        bring_all(self.world, [9, 10])
        before = self.told()
        self.assertEqual((self.world.status(2), self.world.found(2), self.world.known("y", 0)), ("done", {}, {}))
        self.world.bring(8)
        self.assertEqual(self.told(), {**before, "letters": self.world.letters()})
        self.assertEqual((self.world.found(2), self.world.known("y", 0)), ({}, {}))

    def test_a_house_is_heard_once(self):
        self.world.twice(9)
        bring_all(self.world, [9, 11])
        self.assertEqual(self.world.status(2), "open")
        self.world.bring(8)
        self.assertEqual(self.world.status(2), "done")

    def test_what_a_house_tells_later_is_not_joined(self):
        world = world_of(3, 2, 2)
        world.write("x", 0, "v")
        world.read("y", 0)
        world.twice(4)
        bring_all(world, [4, 1, 7])
        self.assertEqual([letter for letter in labels(world) if letter[0] == "told"], [("told", 2, A), ("told", 2, A)])
        bring_all(world, [8, 10])
        self.assertEqual((world.status(2), world.found(2)), ("open", {}))

    def test_the_known_is_joined_with_the_found(self):
        self.world.write("y", 0, "w")
        bring_all(self.world, [8, 9])
        self.assertEqual(self.world.known("y", 0), {"x": (1, "v"), "y": (1, "w")})
        self.assertEqual(self.world.found(2), V)
        self.world.write("y", 0, "u")
        self.assertEqual(self.world.known("y", 0), {"x": (1, None), "y": (2, "u")})

    def test_a_read_of_an_own_write(self):
        self.world.read("x", 0)
        self.assertEqual(self.world.known("x", 0), V)
        bring_all(self.world, [12, 13, 14, 15])
        self.assertEqual((self.world.status(3), self.world.found(3), self.world.known("x", 0)), ("done", {}, V))


class LosingAndDoubling(WorldCase):
    def setUp(self):
        WorldCase.setUp(self)
        self.world.write("x", 0, "v")
        self.world.read("y", 0)

    def test_lost(self):
        before = self.told()
        self.assertIsNone(self.world.lose(2))
        left = [letter for letter in before["letters"] if letter[0] != 2]
        self.assertEqual(self.told(), {**before, "letters": left})
        self.world.lose(4)
        self.assertEqual(self.told(), {**before, "letters": [letter for letter in left if letter[0] != 4]})

    def test_doubled(self):
        before = self.told()
        self.assertIsNone(self.world.twice(2))
        self.assertIsNone(self.world.twice(5))
        self.assertIsNone(self.world.twice(7))
        more = [(7, "put", 1, B, 0), (8, "query", 2, B, 0), (9, "put", 1, B, 0)]
        self.assertEqual(self.told(), {**before, "letters": before["letters"] + more})

    def test_a_doubled_letter_bears_the_same(self):
        self.world.twice(1)
        self.world.lose(1)
        self.world.write("x", 0, "w")
        self.world.bring(7)
        self.assertEqual(self.world.shelf(A, 0), V)
        self.world.bring(4)
        self.assertEqual(self.world.letters()[-1], (12, "told", 2, A, 0))
        self.world.twice(12)
        self.world.lose(12)
        self.world.bring(13)
        self.assertEqual(self.world.found(2), V)

    def test_no_letter(self):
        self.world.lose(3)
        self.world.bring(2)
        before = self.told()
        for number in NO_NUMBERS + [2, 3, 8, 100]:
            with self.subTest(number=number):
                refused(self, NoLetter, "letter", number, self.world.bring, number)
                refused(self, NoLetter, "letter", number, self.world.lose, number)
                refused(self, NoLetter, "letter", number, self.world.twice, number)
        self.assertEqual(self.told(), before)

    def test_no_letter_comes_by_itself(self):
        before = self.told()
        self.world.read("z", 0)
        self.world.fall(E)
        self.world.rise(E)
        self.world.declare(9, 2, 1, 1)
        self.assertEqual(self.world.letters()[:6], before["letters"])
        self.assertEqual([self.world.status(number) for number in (1, 2, 3)], ["open"] * 3)
        self.assertEqual(self.world.shelf(A, 0), {})


class AnyOrder(unittest.TestCase):
    def test_a_write_brought_in_each_order(self):
        """Each order of the three puts and, behind each put, its ack; none of them ends otherwise."""
        for order in itertools.permutations(range(3)):
            for stops in range(1, 4):
                world = world_of(3, 2, 2)
                world.write("x", 0, "v")
                for number, home in enumerate(order[:stops], 1):
                    world.bring(home + 1)
                    world.bring(3 + number)
                    self.assertEqual(world.status(1), "done" if number >= 2 else "open")
                homes = sorted([A, B, C][home] for home in order[:stops])
                self.assertEqual([house for house in FIVE if world.shelf(house, 0) == V], homes)

    def test_two_writes_of_one_asker_in_each_order(self):
        for order in itertools.permutations([1, 2, 3]):
            world = world_of(1, 1, 1)
            for value in ("u", "v", "w"):
                world.write("x", 0, value)
            seen = 0
            for number in order:
                world.bring(number)
                seen = max(seen, number)
                self.assertEqual(world.shelf(A, 0), {"x": (seen, "uvw"[seen - 1])})


if __name__ == "__main__":
    unittest.main()
