"""What things suffer from: points 2 and 36."""

import itertools
import random
import unittest

from threeroofs.dealing import dealt
from threeroofs.scant import scant

from samples import pairs_of, rows_of_houses, some_houses, turned, words_of

THREE_ROOFS = {"a.1.a": (0,), "b.1.a": (1,), "c.1.a": (2,)}
ONE_ROOF = {"a.1.a": (0,), "a.2.a": (1,), "a.3.a": (2,)}
ONE_ROOM = {"a.1.a": (0,), "a.1.b": (1,), "a.1.c": (2,)}


class Suffering(unittest.TestCase):
    def test_no_things(self):
        self.assertEqual(scant(THREE_ROOFS, []), [])
        self.assertEqual(scant({}, []), [])

    def test_none_suffers(self):
        self.assertEqual(scant(THREE_ROOFS, [(0, 0), (1, 1), (2, 2), (3, 3)]), [])

    def test_copies_are_lacking(self):
        self.assertEqual(scant(THREE_ROOFS, [(7, 4), (8, 20)]), [(7, 1, 0, 0), (8, 17, 0, 0)])

    def test_pairs_under_one_roof(self):
        self.assertEqual(scant(ONE_ROOF, [(7, 1), (7, 2), (7, 3)]), [(7, 0, 1, 0), (7, 0, 3, 0)])

    def test_pairs_under_one_roof_and_in_one_room(self):
        self.assertEqual(scant(ONE_ROOM, [(7, 1), (7, 2), (7, 3)]), [(7, 0, 1, 1), (7, 0, 3, 3)])

    def test_lacking_and_pairs_under_one_roof(self):
        self.assertEqual(scant(ONE_ROOF, [(7, 5)]), [(7, 2, 3, 0)])

    def test_all_three(self):
        self.assertEqual(scant(ONE_ROOM, [(7, 5)]), [(7, 2, 3, 3)])
        houses = {"a.1.a": (0,), "a.1.b": (1,), "a.2.a": (2,), "b.1.a": (3,), "b.1.b": (4,)}
        self.assertEqual(scant(houses, [(7, 4), (7, 5), (7, 6)]), [(7, 0, 2, 1), (7, 0, 4, 2), (7, 1, 4, 2)])

    def test_no_houses(self):
        self.assertEqual(scant({}, [(5, 0), (6, 1), (7, 20)]), [(6, 1, 0, 0), (7, 20, 0, 0)])

    def test_the_order_of_the_list(self):
        things = [(9, 5), (1, 3), (200, 4), (3, 9)]
        wanted = [(9, 2, 0, 0), (200, 1, 0, 0), (3, 6, 0, 0)]
        self.assertEqual(scant(THREE_ROOFS, things), wanted)
        self.assertEqual(scant(THREE_ROOFS, list(reversed(things))), list(reversed(wanted)))

    def test_a_thing_that_stands_in_the_list_twice(self):
        self.assertEqual(scant(THREE_ROOFS, [(9, 4), (9, 3), (9, 4)]), [(9, 1, 0, 0), (9, 1, 0, 0)])
        self.assertEqual(scant(THREE_ROOFS, [(9, 5), (9, 4)]), [(9, 2, 0, 0), (9, 1, 0, 0)])

    def test_a_list_of_tuples_of_whole_numbers(self):
        told = scant(ONE_ROOM, [(7, 5)])
        self.assertIs(type(told), list)
        self.assertIs(type(told[0]), tuple)
        self.assertEqual([type(number) for number in told[0]], [int] * 4)


class Drawers(unittest.TestCase):
    # The roof a has a house in one room, b one in each of two; which of them the third copy meets hangs on the drawer.
    HOUSES = {"a.1.a": (0,), "a.1.b": (1,), "b.1.a": (2,), "b.2.a": (3,)}

    def told(self, key, many):
        return scant(self.HOUSES, [(key, many)])

    def test_each_key_goes_by_its_drawer(self):
        for key in range(256):
            for many in range(6):
                names = dealt(self.HOUSES, key % 110, many)
                row = (key, many - len(names)) + pairs_of(names)
                self.assertEqual(self.told(key, many), [row] if many > 2 else [], (key, many))

    def test_keys_from_110_on_share_a_drawer(self):
        for key in range(110, 256):
            for many in range(6):
                wanted = [(key,) + row[1:] for row in self.told(key - 110, many)]
                self.assertEqual(self.told(key, many), wanted)


class WhatFollows(unittest.TestCase):
    def test_just_those_of_which_more_are_wanted_than_there_are_roofs(self):
        chooser = random.Random(36)
        for number in range(150):
            houses = some_houses(chooser)
            roofs = len({words_of(name)[0] for name in houses})
            things = [(chooser.randrange(256), many) for many in range(21)]
            told = scant(houses, things)
            self.assertEqual([numbers[0] for numbers in told], [key for key, many in things if many > roofs])

    def test_no_choice_of_as_many_houses_has_fewer_pairs(self):
        names = ["a.a.a", "a.a.aa", "a.aa.a", "aa.a.a", "b.a.a"]
        for houses in rows_of_houses(names, 4):
            for many in range(6):
                some = min(many, len(houses))
                fewest = min(pairs_of(choice) for choice in itertools.combinations(houses, some))
                row = (0, many - some) + fewest
                self.assertEqual(scant(houses, [(0, many)]), [row] if max(row) > 0 else [], (houses, many))

    def test_a_dict_the_other_way_round(self):
        chooser = random.Random(37)
        for number in range(100):
            houses = some_houses(chooser)
            things = [(chooser.randrange(256), chooser.randrange(21)) for time in range(5)]
            self.assertEqual(scant(turned(houses), things), scant(houses, things))


class TheAskersOwn(unittest.TestCase):
    def test_what_is_handed_in_stays_as_it_is(self):
        houses = {"b.1.b": (7,), "a.1.a": (5,)}
        things = [(9, 5), (1, 0), (2, 1)]
        scant(houses, things)
        self.assertEqual(list(houses.items()), [("b.1.b", (7,)), ("a.1.a", (5,))])
        self.assertEqual(things, [(9, 5), (1, 0), (2, 1)])

    def test_each_list_is_a_new_one(self):
        houses = dict(THREE_ROOFS)
        things = [(9, 5)]
        told = scant(houses, things)
        scant(houses, things).clear()
        houses.clear()
        things.clear()
        self.assertEqual(told, [(9, 2, 0, 0)])
        scant({}, things).append(told[0])
        self.assertEqual(things, [])
        self.assertEqual(scant({}, []), [])


if __name__ == "__main__":
    unittest.main()
