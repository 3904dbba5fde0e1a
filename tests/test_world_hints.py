"""Neighbours and hints, houses that fall and rise: points 55 and 56."""

import random
import unittest

from threeroofs.orders import order
from threeroofs.world import World

from plain import told_of
from samples import A, B, C, D, E, FIVE, some_houses

V = {"x": (1, "v")}
W = {"y": (1, "w")}


def world_of(copies, houses=FIVE, keys=(0,)):
    world = World(houses)
    for key in keys:
        world.declare(key, copies, 1, 1)
    return world


def written_away(world, asker, key, value):
    """Writes and brings all its puts."""
    number = world.write(asker, key, value)
    for letter in world.letters():
        if letter[1:3] == ("put", number):
            world.bring(letter[0])


def hint_letters(world):
    return [letter for letter in world.letters() if letter[1] == "hint"]


class Neighbours(unittest.TestCase):
    def keepers(self, world):
        return [hint[0] for hint in world.hints()]

    def test_the_first_in_the_drawer_that_is_no_home(self):
        for copies, keeper in ((1, B), (2, C), (3, D), (4, E)):
            world = world_of(copies)
            world.fall(A)
            written_away(world, "x", 0, "v")
            self.assertEqual(world.hints(), [(keeper, A, 0, V)])

    def test_not_one_that_is_away(self):
        world = world_of(2)
        for house in (A, C):
            world.fall(house)
        written_away(world, "x", 0, "v")
        self.assertEqual(world.hints(), [(D, A, 0, V)])
        world.fall(D)
        written_away(world, "y", 0, "w")
        self.assertEqual(world.hints(), [(D, A, 0, V), (E, A, 0, W)])

    def test_there_is_none(self):
        world = world_of(5)
        world.fall(A)
        written_away(world, "x", 0, "v")
        self.assertEqual((world.hints(), world.shelf(A, 0)), ([], {}))
        world.rise(A)
        self.assertEqual((hint_letters(world), world.shelf(A, 0)), ([], {}))

    def test_none_where_all_others_are_away(self):
        world = world_of(3)
        for house in (A, D, E):
            world.fall(house)
        written_away(world, "x", 0, "v")
        self.assertEqual(world.hints(), [])

    def test_the_first_of_the_order_and_not_of_the_names(self):
        houses = {"a.1.a": (9,), "b.1.a": (1,), "c.1.a": (0,), "a.2.a": (8,)}
        world = world_of(1, houses)
        self.assertEqual(world.homes(0), ["c.1.a"])
        world.fall("c.1.a")
        written_away(world, "x", 0, "v")
        self.assertEqual(self.keepers(world), ["b.1.a"])

    def test_by_the_order_alone_and_not_as_copies_are_dealt(self):
        """One under the home's own roof and in its room may be the first."""
        world = world_of(1, {"a.1.a": (0,), "a.1.b": (1,), "b.1.a": (2,)})
        world.fall("a.1.a")
        written_away(world, "x", 0, "v")
        self.assertEqual(self.keepers(world), ["a.1.b"])

    def test_in_each_drawer(self):
        chooser = random.Random(55)
        for key in list(range(110)) + [110, 147, 255]:
            houses = some_houses(chooser, chooser.randint(2, 11))
            world = world_of(chooser.randint(1, 3), houses, (key,))
            for house in chooser.sample(sorted(houses), chooser.randint(0, len(houses) // 2)):
                world.fall(house)
            home = world.homes(key)[0]
            world.fall(home)
            written_away(world, "x", key, "v")
            there = [house for house in order(houses, key % 110) if house not in world.homes(key) + world.away()]
            self.assertEqual([hint[0] for hint in world.hints() if hint[1] == home], there[:1])

    def test_the_neighbour_of_the_thing_and_not_of_the_house(self):
        world = world_of(2)
        for house in (A, B):
            world.fall(house)
        written_away(world, "x", 0, "v")
        self.assertEqual(world.hints(), [(C, A, 0, V), (C, B, 0, V)])


class Hints(unittest.TestCase):
    def test_two_for_one_house_and_one_thing_are_joined(self):
        world = world_of(1)
        world.fall(A)
        written_away(world, "x", 0, "v")
        written_away(world, "y", 0, "w")
        self.assertEqual(world.hints(), [(B, A, 0, {"x": (1, "v"), "y": (1, "w")})])
        written_away(world, "x", 0, "u")
        self.assertEqual(world.hints(), [(B, A, 0, {"x": (2, "u"), "y": (1, "w")})])
        world.rise(A)
        self.assertEqual(len(hint_letters(world)), 1)
        world.bring(hint_letters(world)[0][0])
        self.assertEqual(world.shelf(A, 0), {"x": (2, "u"), "y": (1, "w")})

    def test_a_doubled_put_leaves_one_hint(self):
        world = world_of(1)
        world.fall(A)
        world.write("x", 0, "v")
        world.twice(1)
        world.bring(1)
        world.bring(2)
        self.assertEqual(world.hints(), [(B, A, 0, V)])

    def test_two_keepers_for_one_house_and_thing(self):
        world = world_of(1)
        world.fall(A)
        written_away(world, "x", 0, "v")
        world.fall(B)
        written_away(world, "y", 0, "w")
        self.assertEqual(world.hints(), [(B, A, 0, V), (C, A, 0, W)])

    def test_unlike_things_and_houses_have_hints_of_their_own(self):
        world = world_of(2, FIVE, (0, 110))
        for house in (A, B):
            world.fall(house)
        written_away(world, "x", 110, "v")
        written_away(world, "y", 0, "w")
        self.assertEqual(world.hints(), [(C, A, 0, W), (C, A, 110, V), (C, B, 0, W), (C, B, 110, V)])

    def test_a_hint_is_no_copy_and_no_ask_hears_of_it(self):
        world = world_of(1)
        world.fall(A)
        written_away(world, "x", 0, "v")
        self.assertEqual((world.shelf(B, 0), world.homes(0), world.status(1), world.letters()), ({}, [A], "open", []))
        world.rise(A)
        world.bring(2)
        self.assertEqual((world.status(1), world.letters()), ("open", []))

    def test_keys_are_ordered_as_numbers(self):
        """110 and 220 lie in one drawer; of texts 0, 110, 220 and 33 would stand otherwise."""
        world = World({"a.1.a": (0,), "b.1.a": (1, 2, 3, 4, 5, 6, 7, 8, 9, 10)})
        keys = [key for key in (220, 110, 0, 9, 10, 99, 100) if order(world.houses(), key % 110)[0] == "a.1.a"]
        for key in keys:
            world.declare(key, 1, 1, 1)
        world.fall("a.1.a")
        for key in keys:
            written_away(world, "x", key, "v")
        self.assertEqual([hint[2] for hint in world.hints()], sorted(keys))
        self.assertGreater(len(keys), 2)


class FallAndRise(unittest.TestCase):
    def test_away_in_the_order_of_names(self):
        world = world_of(3)
        self.assertEqual(world.away(), [])
        for house in (D, A, C):
            self.assertIsNone(world.fall(house))
        self.assertEqual(world.away(), [A, C, D])
        self.assertIsNone(world.rise(C))
        self.assertEqual(world.away(), [A, D])

    def test_the_fall_of_one_that_is_away_changes_nothing(self):
        world = world_of(3)
        world.fall(A)
        written_away(world, "x", 0, "v")
        before = told_of(world, ["x"])
        self.assertIsNone(world.fall(A))
        self.assertEqual(told_of(world, ["x"]), before)
        world.rise(A)
        self.assertEqual(world.away(), [])

    def test_the_rise_of_one_that_is_not_changes_nothing(self):
        world = world_of(3)
        before = told_of(world, ["x"])
        self.assertIsNone(world.rise(A))
        self.assertEqual(told_of(world, ["x"]), before)
        world.fall(A)
        written_away(world, "x", 0, "v")
        before = told_of(world, ["x"])
        for house in (B, C, D, E):
            world.rise(house)
        self.assertEqual(told_of(world, ["x"]), before)

    def test_it_keeps_its_shelves_and_hints(self):
        world = world_of(1)
        written_away(world, "x", 0, "v")
        world.fall(A)
        self.assertEqual(world.shelf(A, 0), V)
        written_away(world, "x", 0, "w")
        world.fall(B)
        self.assertEqual((world.shelf(A, 0), world.hints()), (V, [(B, A, 0, {"x": (2, "w")})]))
        world.rise(A)
        self.assertEqual((world.shelf(A, 0), world.hints()), (V, [(B, A, 0, {"x": (2, "w")})]))

    def test_homes_and_asks_are_what_they_were(self):
        world = world_of(3)
        world.write("x", 0, "v")
        world.read("x", 0)
        before = told_of(world, ["x"])
        world.fall(A)
        self.assertEqual(told_of(world, ["x"]), {**before, "away": [A]})


class HintsSent(unittest.TestCase):
    def test_right_behind_the_rise(self):
        world = world_of(3)
        world.fall(A)
        written_away(world, "x", 0, "v")
        world.rise(A)
        self.assertEqual(world.hints(), [])
        self.assertEqual(world.letters()[-1], (6, "hint", None, A, 0))
        self.assertEqual(world.shelf(A, 0), {})
        world.bring(6)
        self.assertEqual(world.shelf(A, 0), V)

    def test_they_are_sent_once(self):
        world = world_of(3)
        world.fall(A)
        written_away(world, "x", 0, "v")
        world.rise(A)
        world.lose(6)
        world.fall(A)
        world.rise(A)
        world.rise(A)
        self.assertEqual(hint_letters(world), [])

    def test_a_keeper_that_is_away_sends_when_it_rises(self):
        world = world_of(3)
        world.fall(A)
        written_away(world, "x", 0, "v")
        world.fall(D)
        world.rise(A)
        self.assertEqual((world.hints(), hint_letters(world)), ([(D, A, 0, V)], []))
        world.rise(E)
        self.assertEqual(hint_letters(world), [])
        world.rise(D)
        self.assertEqual((world.hints(), hint_letters(world)), ([], [(6, "hint", None, A, 0)]))

    def test_both_away_until_the_second_rises(self):
        for first, second in ((A, D), (D, A)):
            world = world_of(3)
            world.fall(A)
            written_away(world, "x", 0, "v")
            world.fall(D)
            world.rise(first)
            self.assertEqual(world.hints(), [(D, A, 0, V)])
            world.rise(second)
            self.assertEqual((world.hints(), hint_letters(world)), ([], [(6, "hint", None, A, 0)]))

    def test_only_those_of_houses_that_are_there(self):
        world = world_of(3)
        for house in (A, B):
            world.fall(house)
        written_away(world, "x", 0, "v")
        world.rise(B)
        self.assertEqual(world.hints(), [(D, A, 0, V)])
        self.assertEqual(hint_letters(world), [(5, "hint", None, B, 0)])

    def test_by_keepers_then_houses_then_keys(self):
        """B and C keep hints for A and D of several things, left in another order; a rise of B sends B's alone."""
        houses = {"a.1.a": (0, 5), "d.1.a": (1, 6), "b.1.a": (2,), "c.1.a": (3,)}
        keys = [key for key in range(256) if set(order(houses, key % 110)[:2]) == {A, D}][:12]
        world = world_of(2, houses, keys)
        self.assertEqual({tuple(sorted(world.homes(key))) for key in keys}, {(A, D)})
        for house in (A, D):
            world.fall(house)
        for number, key in enumerate(reversed(keys)):
            if number % 3 == 0:
                world.fall(B)
            written_away(world, "x", key, "v")
            world.rise(B)
        hints = world.hints()
        places = [hint[:3] for hint in hints]
        self.assertEqual(places, sorted(places))
        self.assertEqual(({hint[0] for hint in hints}, {hint[1] for hint in hints}), ({B, C}, {A, D}))
        world.fall(B)
        world.fall(C)
        world.rise(A)
        world.rise(D)
        self.assertEqual(hint_letters(world), [])
        world.rise(C)
        wanted = [place for place in places if place[0] == C]
        self.assertEqual([letter[3:] for letter in hint_letters(world)], [place[1:] for place in wanted])
        world.rise(B)
        wanted = wanted + [place for place in places if place[0] == B]
        self.assertEqual([letter[3:] for letter in hint_letters(world)], [place[1:] for place in wanted])
        self.assertEqual(world.hints(), [])

    def test_of_two_keepers_the_first_by_name_first(self):
        world = world_of(1)
        world.fall(A)
        world.fall(B)
        written_away(world, "x", 0, "v")
        world.rise(B)
        written_away(world, "y", 0, "w")
        self.assertEqual(world.hints(), [(B, A, 0, W), (C, A, 0, V)])
        world.rise(A)
        numbers = [letter[0] for letter in hint_letters(world)]
        world.bring(numbers[0])
        self.assertEqual(world.shelf(A, 0), W)
        world.bring(numbers[1])
        self.assertEqual(world.shelf(A, 0), {"x": (1, "v"), "y": (1, "w")})

    def test_no_hints_where_no_house_is_away(self):
        chooser = random.Random(56)
        for number in range(60):
            houses = some_houses(chooser, chooser.randint(2, 11))
            keys = chooser.sample(range(256), 3)
            world = world_of(chooser.randint(1, 3), houses, keys)
            for deed in range(40):
                house = chooser.choice(sorted(houses))
                chooser.choice([world.fall, world.rise])(house)
                if chooser.random() < 0.5:
                    written_away(world, "x", chooser.choice(keys), "v")
            for house in chooser.sample(sorted(houses), len(houses)):
                world.rise(house)
            self.assertEqual((world.away(), world.hints()), ([], []))


if __name__ == "__main__":
    unittest.main()
