"""A world's houses and things: points 2, 4 and 50."""

import random
import unittest

from threeroofs.errors import NoAsker, NoCounts, NoHouse, NoThing, NoValue, OldThing
from threeroofs.world import World

from plain import deal, told_of
from samples import A, B, C, D, E, FIVE, NO_HOUSES, NO_KEYS, refused, some_houses, turned

# Each of these may be one of the three counts of a thing, or none of them; what is whole is told beside the others.
WRONG = [0, -1, 6, 10 ** 30, True, False, None, "", "1", "3", 1.0, 3.0, [], [1], (), (1,), {}, {1: 1}, {1}, b"1"]


def empty_told(houses):
    return {"houses": houses, "things": [], "counts": {}, "homes": {}, "letters": [], "away": [], "hints": [],
            "asks": [], "shelves": {}, "known": {}}


class ANewWorld(unittest.TestCase):
    def test_nothing_is_there_but_the_houses(self):
        for houses in (FIVE, {}, {"a.1.a": (7, 3, 10)}):
            self.assertEqual(told_of(World(houses), ["x"]), empty_told(houses))

    def test_two_worlds(self):
        one = World(FIVE)
        other = World({})
        before = told_of(other, ["x"])
        one.declare(0, 3, 2, 2)
        one.write("x", 0, "v")
        one.fall(A)
        self.assertEqual(told_of(other, ["x"]), before)
        other.declare(0, 1, 1, 1)
        self.assertEqual(other.known("x", 0), {})
        self.assertEqual(other.read("x", 0), 1)
        self.assertEqual((one.counts_of(0), one.homes(0)), ((3, 2, 2), [A, B, C]))


class Declaring(unittest.TestCase):
    def test_all_counts(self):
        for copies in range(1, 6):
            for reads in range(1, copies + 1):
                for writes in range(1, copies + 1):
                    world = World(FIVE)
                    self.assertIsNone(world.declare(0, copies, reads, writes))
                    self.assertEqual(world.counts_of(0), (copies, reads, writes))
                    self.assertEqual(world.homes(0), [A, B, C, D, E][:copies])

    def test_all_keys(self):
        world = World(FIVE)
        for key in reversed(range(256)):
            world.declare(key, 2, 1, 2)
            self.assertEqual(world.things(), list(range(key, 256)))
        for key in range(256):
            self.assertEqual(world.homes(key), deal(FIVE, key, 2))
            self.assertEqual(world.counts_of(key), (2, 1, 2))

    def test_a_new_thing_changes_nothing_of_another(self):
        world = World(FIVE)
        world.declare(0, 3, 2, 2)
        world.write("x", 0, "v")
        world.bring(1)
        before = told_of(world, ["x"])
        world.declare(110, 4, 1, 1)
        self.assertEqual(world.shelf(A, 0), {"x": (1, "v")})
        self.assertEqual(world.shelf(A, 110), {})
        self.assertEqual(world.known("x", 110), {})
        self.assertEqual((world.letters(), world.homes(0)), (before["letters"], before["homes"][0]))

    def test_while_a_house_is_away(self):
        world = World(FIVE)
        world.fall(A)
        world.declare(0, 2, 1, 1)
        self.assertEqual(world.homes(0), [A, B])


class Homes(unittest.TestCase):
    def test_they_are_dealt_in_the_things_drawer(self):
        chooser = random.Random(50)
        for number in range(150):
            houses = some_houses(chooser)
            key = chooser.randrange(256)
            copies = chooser.randint(1, 5)
            world = World(houses)
            world.declare(key, copies, 1, 1)
            self.assertEqual(world.homes(key), deal(houses, key, copies))
            world = World(turned(houses))
            world.declare(key, copies, 1, 1)
            self.assertEqual(world.homes(key), deal(houses, key, copies))

    def test_roofs_and_rooms_go_ahead_of_the_order(self):
        world = World({"a.1.a": (0,), "a.1.b": (1,), "a.2.a": (2,), "b.1.a": (3,)})
        world.declare(0, 3, 1, 1)
        self.assertEqual(world.homes(0), ["a.1.a", "b.1.a", "a.2.a"])

    def test_fewer_houses_than_copies(self):
        world = World({"b.1.a": (0,), "a.1.a": (1,)})
        world.declare(0, 5, 5, 5)
        self.assertEqual(world.homes(0), ["b.1.a", "a.1.a"])
        self.assertEqual(world.counts_of(0), (5, 5, 5))

    def test_no_houses_at_all(self):
        world = World({})
        world.declare(7, 3, 2, 2)
        self.assertEqual(world.homes(7), [])
        self.assertEqual(world.write("x", 7, "v"), 1)
        self.assertEqual(world.read("x", 7), 2)
        self.assertEqual((world.letters(), world.status(1), world.status(2)), ([], "open", "open"))
        self.assertEqual((world.found(1), world.found(2)), ({"x": (1, "v")}, {}))

    def test_shelves_are_empty_first_and_others_keep_nothing(self):
        world = World(FIVE)
        world.declare(0, 2, 1, 1)
        for house in FIVE:
            self.assertEqual(world.shelf(house, 0), {})


class RefusedDeclarations(unittest.TestCase):
    def setUp(self):
        self.world = World(FIVE)
        self.world.declare(0, 3, 2, 2)
        self.world.declare(1, 1, 1, 1)
        self.before = told_of(self.world, ["x"])

    def tearDown(self):
        self.assertEqual(told_of(self.world, ["x"]), self.before)

    def test_no_key(self):
        for key in NO_KEYS:
            with self.subTest(key=key):
                refused(self, NoThing, "thing", key, self.world.declare, key, 3, 2, 2)

    def test_no_key_ahead_of_the_counts(self):
        for key in NO_KEYS:
            refused(self, NoThing, "thing", key, self.world.declare, key, 0, None, 9)

    def test_an_old_thing(self):
        for key in (0, 1):
            refused(self, OldThing, "thing", key, self.world.declare, key, 3, 2, 2)

    def test_an_old_thing_ahead_of_the_counts(self):
        for count in WRONG:
            refused(self, OldThing, "thing", 0, self.world.declare, 0, count, count, count)

    def no_counts(self, *counts):
        with self.subTest(counts=counts):
            with self.assertRaises(NoCounts) as taken:
                self.world.declare(5, *counts)
            self.assertIs(taken.exception.__class__, NoCounts)

    def test_no_counts(self):
        for count in WRONG:
            self.no_counts(count, 1, 1)
            self.no_counts(3, count, 1)
            self.no_counts(3, 1, count)
            self.no_counts(count, count, count)

    def test_counts_above_the_copies(self):
        for copies in range(1, 6):
            for above in (copies + 1, copies + 2, 6, 10 ** 30):
                self.no_counts(copies, above, 1)
                self.no_counts(copies, 1, above)
        self.no_counts(6, 6, 6)
        self.no_counts(6, 1, 1)
        self.no_counts(0, 0, 0)


class WhereverAThingIsAskedFor(unittest.TestCase):
    def test_one_that_was_not_declared(self):
        for declared in ((), (0, 1)):
            world = World(FIVE)
            for key in declared:
                world.declare(key, 3, 2, 2)
            before = told_of(world, ["x"])
            for key in NO_KEYS + [2, 255, 110]:
                with self.subTest(key=key, declared=declared):
                    refused(self, NoThing, "thing", key, world.homes, key)
                    refused(self, NoThing, "thing", key, world.counts_of, key)
                    refused(self, NoThing, "thing", key, world.write, "x", key, "v")
                    refused(self, NoThing, "thing", key, world.read, "x", key)
                    refused(self, NoThing, "thing", key, world.known, "x", key)
                    refused(self, NoThing, "thing", key, world.shelf, A, key)
                    refused(self, NoThing, "thing", key, world.lay, A, key, {"x": (1, "v")})
            self.assertEqual(told_of(world, ["x"]), before)


class WhereverAHouseIsAskedFor(unittest.TestCase):
    def test_one_that_is_not_there(self):
        for houses in (FIVE, {}):
            world = World(houses)
            world.declare(0, 3, 2, 2)
            before = told_of(world, ["x"])
            for house in NO_HOUSES + ["f.1.a", "a.1.b", "a.2.a"]:
                with self.subTest(house=house):
                    refused(self, NoHouse, "house", house, world.fall, house)
                    refused(self, NoHouse, "house", house, world.rise, house)
                    refused(self, NoHouse, "house", house, world.shelf, house, 0)
                    refused(self, NoHouse, "house", house, world.lay, house, 0, {"x": (1, "v")})
            self.assertEqual(told_of(world, ["x"]), before)

    def test_the_house_ahead_of_the_thing(self):
        world = World(FIVE)
        world.declare(0, 3, 2, 2)
        for house in NO_HOUSES:
            refused(self, NoHouse, "house", house, world.shelf, house, 5)
            refused(self, NoHouse, "house", house, world.lay, house, None, {"x": (1, "v")})


class TheAskersOwn(unittest.TestCase):
    def test_the_houses_handed_in_may_be_changed_later(self):
        houses = dict(FIVE)
        world = World(houses)
        houses.clear()
        self.assertEqual(world.houses(), FIVE)
        world.declare(0, 3, 2, 2)
        self.assertEqual(world.homes(0), [A, B, C])
        other = {"f.1.a": (0,)}
        world.rehouse(other)
        other["g.1.a"] = (1,)
        self.assertEqual(world.houses(), {"f.1.a": (0,)})
        self.assertEqual(world.homes(0), ["f.1.a"])

    def test_the_houses_handed_in_stay_as_they_are(self):
        houses = {"a.1.a": (7, 3), "b.1.a": (5,)}
        world = World(houses)
        world.declare(0, 2, 1, 1)
        world.rehouse({})
        world.rehouse(houses)
        self.assertEqual(houses, {"a.1.a": (7, 3), "b.1.a": (5,)})
        self.assertEqual(world.houses(), houses)

    def test_what_is_given_is_the_askers_own(self):
        world = World(FIVE)
        world.declare(0, 3, 2, 1)
        world.write("x", 0, "v")
        world.bring(1)
        world.fall(B)
        world.bring(2)
        world.bring(4)
        world.read("y", 0)
        before = told_of(world, ["x"])
        world.houses().clear()
        world.things().append(9)
        world.homes(0).clear()
        world.letters().clear()
        world.away().append(A)
        world.hints()[0][3]["q"] = (1, "w")
        world.hints().clear()
        world.found(1)["q"] = (1, "w")
        world.missed(2).clear()
        world.shelf(A, 0)["q"] = (1, "w")
        world.shelf(E, 0)["q"] = (1, "w")
        world.known("x", 0)["q"] = (1, "w")
        world.known("z", 0)["q"] = (1, "w")
        self.assertEqual(told_of(world, ["x"]), before)
        self.assertEqual((world.known("z", 0), world.shelf(E, 0)), ({}, {}))

    def test_what_was_given_stays_as_it_is(self):
        world = World(FIVE)
        world.declare(0, 3, 2, 1)
        world.write("x", 0, "v")
        world.read("x", 0)
        given = (world.houses(), world.things(), world.homes(0), world.letters(), world.away(), world.hints(),
                 world.found(2), world.missed(2), world.shelf(A, 0), world.known("y", 0))
        for number in range(1, 10):
            world.bring(number)
        world.write("y", 0, "w")
        world.fall(A)
        world.declare(7, 1, 1, 1)
        world.bring(10)
        world.rise(A)
        world.rehouse({"f.1.a": (0,)})
        letters = [(number, "put" if number < 4 else "query", 1 if number < 4 else 2, [A, B, C][(number - 1) % 3], 0)
                   for number in range(1, 7)]
        self.assertEqual(given, (FIVE, [0], [A, B, C], letters, [], [], {}, [], {}, {}))


class WhatIsRefusedChangesNothing(unittest.TestCase):
    def test_the_next_numbers_are_the_same(self):
        world = World(FIVE)
        world.declare(0, 3, 2, 2)
        for refusal, deed, handed in ((NoValue, world.write, ("x", 0, "")), (NoAsker, world.read, ("", 0)),
                                      (NoThing, world.read, ("x", 5)), (NoThing, world.write, ("x", 5, "v"))):
            with self.assertRaises(refusal):
                deed(*handed)
        self.assertEqual(world.write("x", 0, "v"), 1)
        self.assertEqual([letter[0] for letter in world.letters()], [1, 2, 3])
        self.assertEqual(world.known("x", 0), {"x": (1, "v")})


if __name__ == "__main__":
    unittest.main()
