"""How copies are dealt, and the crowd of houses: points 2 and 23 to 25."""

import itertools
import random
import unittest

from threeroofs.dealing import crowd, dealt
from threeroofs.orders import order

from samples import NAMES, pairs_of, rows_of_houses, some_houses, turned, words_of

SMALL = ["a.a.a", "a.a.aa", "a.aa.a", "aa.a.a", "aa.a.b", "b.a.a"]


def dealt_by_the_rule(houses, drawer, many):
    """Point 23, one sieve behind the other."""
    taken = []
    while len(taken) < min(many, len(houses)):
        left = [name for name in houses if name not in taken]
        for words in (1, 2):
            heads = [words_of(name)[:words] for name in taken]
            fewest = min(heads.count(words_of(name)[:words]) for name in left)
            left = [name for name in left if heads.count(words_of(name)[:words]) == fewest]
        taken.append([name for name in order(houses, drawer) if name in left][0])
    return taken


class Dealing(unittest.TestCase):
    def test_no_houses(self):
        for many in range(21):
            self.assertEqual(dealt({}, 0, many), [])

    def test_no_copies(self):
        self.assertEqual(dealt({"a.a.a": (0,)}, 0, 0), [])

    def test_one_house(self):
        for many in range(1, 21):
            self.assertEqual(dealt({"a.a.a": (3, 9)}, 17, many), ["a.a.a"])

    def test_houses_under_one_roof_in_one_room(self):
        houses = {"a.a.a": (4,), "a.a.b": (2,), "a.a.c": (8, 0)}
        self.assertEqual(dealt(houses, 0, 3), ["a.a.c", "a.a.b", "a.a.a"])
        self.assertEqual(dealt(houses, 109, 3), ["a.a.c", "a.a.a", "a.a.b"])

    def test_houses_under_several_roofs_go_by_the_order(self):
        houses = {"a.a.a": (4,), "b.a.a": (2,), "c.a.a": (8,)}
        self.assertEqual(dealt(houses, 0, 3), ["b.a.a", "a.a.a", "c.a.a"])
        self.assertEqual(dealt(houses, 0, 2), ["b.a.a", "a.a.a"])

    def test_another_roof_ahead_of_the_order(self):
        houses = {"a.a.a": (0,), "a.b.a": (1,), "a.c.a": (2,), "b.a.a": (3,)}
        self.assertEqual(dealt(houses, 0, 4), ["a.a.a", "b.a.a", "a.b.a", "a.c.a"])

    def test_another_room_ahead_of_the_order(self):
        houses = {"a.a.a": (0,), "a.a.b": (1,), "a.a.c": (2,), "a.b.a": (3,)}
        self.assertEqual(dealt(houses, 0, 4), ["a.a.a", "a.b.a", "a.a.b", "a.a.c"])

    def test_another_roof_ahead_of_another_room(self):
        houses = {"a.a.a": (0,), "a.b.a": (1,), "b.a.a": (2,), "b.a.b": (3,)}
        self.assertEqual(dealt(houses, 0, 4), ["a.a.a", "b.a.a", "a.b.a", "b.a.b"])

    def test_rooms_are_held_against_one_another_under_whichever_roofs(self):
        # Under both roofs is one copy; the room a.a has one, the room b.b none, though a.a.b is first in the order.
        houses = {"a.a.a": (0,), "a.a.b": (1,), "b.a.a": (2,), "b.b.a": (3,)}
        self.assertEqual(dealt(houses, 0, 4), ["a.a.a", "b.a.a", "b.b.a", "a.a.b"])

    def test_rooms_of_one_name_under_two_roofs_are_two_rooms(self):
        houses = {"a.x.a": (0,), "b.y.a": (1,), "a.y.b": (2,), "b.x.b": (3,), "a.z.c": (4,)}
        self.assertEqual(dealt(houses, 0, 5), ["a.x.a", "b.y.a", "a.y.b", "b.x.b", "a.z.c"])

    def test_words_that_begin_one_another(self):
        houses = {"a.a.a": (0,), "a.a.b": (1,), "a.aa.a": (2,), "aa.a.a": (3,), "aaa.a.a": (4,)}
        self.assertEqual(dealt(houses, 0, 5), ["a.a.a", "aa.a.a", "aaa.a.a", "a.aa.a", "a.a.b"])

    def test_a_roof_that_runs_out(self):
        houses = {"a.a.a": (0,), "a.b.a": (1,), "a.c.a": (2,), "a.d.a": (3,), "b.a.a": (10,)}
        self.assertEqual(dealt(houses, 0, 20), ["a.a.a", "b.a.a", "a.b.a", "a.c.a", "a.d.a"])

    def test_more_copies_than_houses(self):
        chooser = random.Random(5)
        for number in range(40):
            houses = some_houses(chooser)
            for many in range(len(houses), 21):
                told = dealt(houses, number, many)
                self.assertEqual(sorted(told), sorted(houses))

    def test_the_rule_over_small_houses(self):
        for houses in rows_of_houses(SMALL, 4):
            for many in range(6):
                self.assertEqual(dealt(houses, 0, many), dealt_by_the_rule(houses, 0, many), (houses, many))

    def test_the_rule_over_some_houses(self):
        chooser = random.Random(6)
        for number in range(300):
            houses = some_houses(chooser)
            drawer = chooser.randrange(110)
            for many in range(21):
                told = dealt(houses, drawer, many)
                self.assertIs(type(told), list)
                self.assertEqual(told, dealt_by_the_rule(houses, drawer, many), (houses, drawer, many))

    def test_a_dict_the_other_way_round(self):
        chooser = random.Random(7)
        for number in range(200):
            houses = some_houses(chooser)
            for many in (1, 3, 5, 20):
                self.assertEqual(dealt(turned(houses), number % 110, many), dealt(houses, number % 110, many))

    def test_plots_of_a_tuple_in_any_order(self):
        chooser = random.Random(8)
        for number in range(200):
            houses = some_houses(chooser)
            mixed = {name: tuple(chooser.sample(plots, len(plots))) for name, plots in houses.items()}
            self.assertEqual(dealt(mixed, number % 110, 20), dealt(houses, number % 110, 20), (houses, mixed))


class WhatFollows(unittest.TestCase):
    def houses_and_drawers(self):
        for houses in rows_of_houses(SMALL, 5):
            yield houses, 0
        chooser = random.Random(25)
        for number in range(40):
            yield some_houses(chooser), chooser.randrange(110)

    def test_fewer_copies_are_the_first_ones_of_more(self):
        for houses, drawer in self.houses_and_drawers():
            most = dealt(houses, drawer, 20)
            self.assertEqual(len(set(most)), len(houses))
            for many in range(20):
                self.assertEqual(dealt(houses, drawer, many), most[:many], (houses, drawer, many))

    def test_no_choice_has_fewer_pairs(self):
        for houses, drawer in self.houses_and_drawers():
            most = dealt(houses, drawer, 20)
            for many in range(len(houses) + 1):
                fewest = min(pairs_of(names) for names in itertools.combinations(houses, many))
                self.assertEqual(pairs_of(most[:many]), fewest, (houses, drawer, many))

    def test_a_change_that_keeps_the_pairs_puts_in_a_later_house(self):
        for houses, drawer in self.houses_and_drawers():
            places = {name: place for place, name in enumerate(order(houses, drawer))}
            most = dealt(houses, drawer, 20)
            for many in range(1, len(houses)):
                told = most[:many]
                for out, put in itertools.product(told, most[many:]):
                    if pairs_of([name for name in told if name != out] + [put]) == pairs_of(told):
                        self.assertGreater(places[put], places[out], (houses, drawer, many))

    def spread(self, names, told, many, words):
        """How the copies lie under roofs (one word), or in rooms (two), that all these names have."""
        everywhere = [words_of(name)[:words] for name in names]
        dealt_to = [words_of(name)[:words] for name in told]
        heads = [list(head) for head in sorted(set(map(tuple, everywhere)))]
        self.assertEqual(len([head for head in heads if head in dealt_to]), min(many, len(heads)))
        for one, other in itertools.permutations(heads, 2):
            if dealt_to.count(one) >= dealt_to.count(other) + 2:
                self.assertEqual(dealt_to.count(other), everywhere.count(other))

    def test_copies_are_spread_over_roofs_and_rooms(self):
        for houses, drawer in self.houses_and_drawers():
            most = dealt(houses, drawer, 20)
            for many in range(len(houses) + 1):
                told = most[:many]
                self.spread(list(houses), told, many, 1)
                for roof in {words_of(name)[0] for name in houses}:
                    under = [name for name in houses if words_of(name)[0] == roof]
                    copies = [name for name in told if name in under]
                    self.spread(under, copies, len(copies), 2)


class Crowds(unittest.TestCase):
    def test_no_house_and_one(self):
        self.assertEqual(crowd([]), (0, 0))
        self.assertEqual(crowd(["a.a.a"]), (0, 0))

    def test_two_houses(self):
        self.assertEqual(crowd(["a.a.a", "b.a.a"]), (0, 0))
        self.assertEqual(crowd(["a.a.a", "a.b.a"]), (1, 0))
        self.assertEqual(crowd(["a.a.a", "a.a.b"]), (1, 1))

    def test_many_in_one_room(self):
        for many in range(31):
            names = [f"a.a.{number}" for number in range(many)]
            self.assertEqual(crowd(names), (many * (many - 1) // 2, many * (many - 1) // 2))

    def test_many_under_one_roof(self):
        for many in range(31):
            names = [f"a.{number}.a" for number in range(many)]
            self.assertEqual(crowd(names), (many * (many - 1) // 2, 0))

    def test_many_under_roofs_of_their_own(self):
        self.assertEqual(crowd([f"{number}.a.a" for number in range(30)]), (0, 0))

    def test_houses_of_several_roofs_and_rooms(self):
        self.assertEqual(crowd(["a.a.a", "b.a.a", "a.b.a", "a.a.b", "b.a.b", "c.c.c"]), (4, 2))

    def test_words_that_begin_one_another_and_rooms_of_one_name(self):
        self.assertEqual(crowd(["a.a.a", "aa.a.a", "a.aa.a", "aa.aa.a"]), (2, 0))
        self.assertEqual(crowd(["a.x.a", "b.x.a", "c.x.a"]), (0, 0))

    def test_pair_by_pair(self):
        chooser = random.Random(24)
        for number in range(400):
            names = chooser.sample(NAMES, chooser.randrange(len(NAMES) + 1))
            told = crowd(names)
            self.assertIs(type(told), tuple)
            self.assertEqual(told, pairs_of(names), names)
            self.assertEqual(crowd(sorted(names)), told)


class TheAskersOwn(unittest.TestCase):
    def test_what_is_handed_in_stays_as_it_is(self):
        houses = {"b.b.b": (7, 0), "a.a.a": (5, 1)}
        names = ["b.b.b", "a.a.a", "a.a.b"]
        for many in range(21):
            dealt(houses, 3, many)
        crowd(names)
        self.assertEqual(list(houses.items()), [("b.b.b", (7, 0)), ("a.a.a", (5, 1))])
        self.assertEqual(names, ["b.b.b", "a.a.a", "a.a.b"])

    def test_each_list_is_a_new_one(self):
        houses = {"b.b.b": (7, 0), "a.a.a": (5, 1)}
        told = dealt(houses, 0, 2)
        dealt(houses, 0, 2).clear()
        houses.clear()
        self.assertEqual(told, ["b.b.b", "a.a.a"])
        dealt({}, 0, 2).append("a.a.a")
        self.assertEqual(dealt({}, 0, 2), [])


if __name__ == "__main__":
    unittest.main()
