"""Moves between two states of the houses: points 2, 34 and 35."""

import itertools
import random
import unittest

from threeroofs.dealing import dealt
from threeroofs.moves import moves

from samples import all_houses, some_houses, turned

# Each under a roof of its own: copies are dealt by the order alone, and drawer 0 sets plot t at place t.
A, B, C, D, E, M, N, X, Y, Z = [f"{letter}.1.1" for letter in "abcdemnxyz"]


def is_changed(house, old, new):
    return old.get(house) != new.get(house)


def moves_by_the_rule(old, new, drawer, many):
    before = set(dealt(old, drawer, many))
    after = set(dealt(new, drawer, many))
    losers = sorted(before - after, key=lambda house: (is_changed(house, old, new), house))
    gainers = sorted(after - before, key=lambda house: (not is_changed(house, old, new), house))
    told = []
    for loser, gainer in itertools.zip_longest(losers, gainers):
        grounds = [
            (loser is None, "came", gainer),
            (loser not in new, "went", loser),
            (gainer not in old, "came", gainer),
            (old.get(loser) != new.get(loser), "weighs", loser),
            (True, "weighs", gainer),
        ]
        told.append((loser, gainer) + [ground[1:] for ground in grounds if ground[0]][0])
    return told


class Grounds(unittest.TestCase):
    def test_from_none(self):
        self.assertEqual(moves({A: (0,)}, {A: (0,), B: (1,)}, 0, 2), [(None, B, "came", B)])

    def test_the_loser_went(self):
        self.assertEqual(moves({A: (0,), B: (1,), C: (2,)}, {B: (1,), C: (2,)}, 0, 2), [(A, C, "went", A)])

    def test_the_loser_went_and_nobody_gains(self):
        self.assertEqual(moves({A: (0,), B: (1,)}, {B: (1,)}, 0, 2), [(A, None, "went", A)])

    def test_the_gainer_came(self):
        self.assertEqual(moves({A: (1,)}, {A: (1,), B: (0,)}, 0, 1), [(A, B, "came", B)])

    def test_the_loser_weighs(self):
        self.assertEqual(moves({A: (0,), B: (1,)}, {A: (5,), B: (1,)}, 0, 1), [(A, B, "weighs", A)])
        self.assertEqual(moves({A: (0, 5), B: (1,)}, {A: (5,), B: (1,)}, 0, 1), [(A, B, "weighs", A)])

    def test_the_gainer_weighs(self):
        self.assertEqual(moves({A: (1,), B: (5,)}, {A: (1,), B: (0,)}, 0, 1), [(A, B, "weighs", B)])
        self.assertEqual(moves({A: (1,), B: (5,)}, {A: (1,), B: (0, 5)}, 0, 1), [(A, B, "weighs", B)])

    def test_went_ahead_of_came(self):
        self.assertEqual(moves({A: (0,), B: (1,)}, {B: (1,), C: (0,)}, 0, 1), [(A, C, "went", A)])

    def test_went_ahead_of_a_gainer_that_weighs(self):
        self.assertEqual(moves({A: (0,), B: (5,)}, {B: (1,)}, 0, 1), [(A, B, "went", A)])

    def test_came_ahead_of_a_loser_that_weighs(self):
        self.assertEqual(moves({A: (0,)}, {A: (5,), B: (1,)}, 0, 1), [(A, B, "came", B)])

    def test_the_loser_ahead_of_the_gainer_where_both_weigh(self):
        self.assertEqual(moves({A: (0,), B: (5,)}, {A: (6,), B: (1,)}, 0, 1), [(A, B, "weighs", A)])


class Rows(unittest.TestCase):
    def test_unchanged_losers_first_and_each_by_name(self):
        old = {D: (4,), E: (5,), C: (6,), A: (7,), Z: (8,), Y: (9,)}
        new = {D: (4,), E: (5,), Y: (9,), A: (10,), N: (0,), M: (1,), Z: (2,)}
        self.assertEqual(dealt(old, 0, 4), [D, E, C, A])
        self.assertEqual(dealt(new, 0, 4), [N, M, Z, D])
        self.assertEqual(moves(old, new, 0, 4), [(E, M, "came", M), (A, N, "came", N), (C, Z, "went", C)])

    def test_several_unchanged_losers_by_name(self):
        old = {E: (4,), D: (5,), A: (6,)}
        new = {E: (4,), D: (5,), Z: (1,), X: (2,), Y: (0,)}
        self.assertEqual(moves(old, new, 0, 3), [(D, X, "came", X), (E, Y, "came", Y), (A, Z, "went", A)])

    def test_changed_gainers_first_and_each_by_name(self):
        old = {D: (4,), B: (5,), C: (6,), A: (7,), Y: (8,), X: (9,)}
        new = {Z: (0,), A: (7,), Y: (8,), X: (9,), C: (10,)}
        self.assertEqual(dealt(old, 0, 4), [D, B, C, A])
        self.assertEqual(dealt(new, 0, 4), [Z, A, Y, X])
        self.assertEqual(moves(old, new, 0, 4), [(B, Z, "went", B), (C, X, "weighs", C), (D, Y, "went", D)])

    def test_more_gainers_than_losers(self):
        old = {D: (4,), C: (5,)}
        new = {D: (4,), Z: (0,), Y: (1,), X: (2,)}
        self.assertEqual(moves(old, new, 0, 4), [(C, X, "went", C), (None, Y, "came", Y), (None, Z, "came", Z)])

    def test_more_losers_than_gainers(self):
        old = {D: (4,), C: (3,), B: (5,), A: (6,)}
        new = {B: (5,), Z: (0,)}
        self.assertEqual(moves(old, new, 0, 4), [(A, Z, "went", A), (C, None, "went", C), (D, None, "went", D)])

    def test_no_copies(self):
        self.assertEqual(moves({A: (0,)}, {B: (0,)}, 0, 0), [])

    def test_no_house_changed(self):
        chooser = random.Random(34)
        for number in range(100):
            houses = some_houses(chooser)
            self.assertEqual(moves(houses, turned(houses), number, chooser.randrange(21)), [])

    def test_from_no_houses(self):
        self.assertEqual(moves({}, {B: (0,), A: (1,), C: (2,)}, 0, 2), [(None, A, "came", A), (None, B, "came", B)])

    def test_to_no_houses(self):
        self.assertEqual(moves({B: (0,), A: (1,), C: (2,)}, {}, 0, 2), [(A, None, "went", A), (B, None, "went", B)])

    def test_from_no_houses_to_none(self):
        for many in range(21):
            self.assertEqual(moves({}, {}, 5, many), [])

    def test_only_the_drawers_own_dealing_counts(self):
        old = {A: (0,), B: (1,)}
        new = {A: (0,), B: (1,), C: (10,)}
        self.assertEqual(moves(old, new, 0, 1), [])
        self.assertEqual(moves(old, new, 109, 1), [(B, C, "came", C)])

    def test_roofs_and_rooms_count(self):
        old = {"a.a.a": (0,), "a.b.a": (1,)}
        new = {"a.a.a": (0,), "a.b.a": (1,), "b.a.a": (10,)}
        self.assertEqual(moves(old, new, 0, 2), [("a.b.a", "b.a.a", "came", "b.a.a")])


class TheRule(unittest.TestCase):
    def follows(self, old, new, drawer, many):
        """Point 35."""
        told = moves(old, new, drawer, many)
        changed = [house for house in {**old, **new} if is_changed(house, old, new)]
        for loser, gainer, word, house in told:
            self.assertTrue(gainer is not None or loser not in new)
            self.assertIn(house, changed)
            self.assertIn(house, (loser, gainer))
            self.assertTrue(loser in changed or gainer in changed)
            self.assertEqual(word, "went" if house not in new else "came" if house not in old else "weighs")
        if len(changed) == 1:
            self.assertLessEqual(len(told), 1)
            self.assertTrue(all(changed[0] in (loser, gainer) for loser, gainer, word, house in told))
        return told

    def test_small_houses_one_by_one(self):
        for names in (["a.a.a", "a.a.b", "b.a.a"], ["a.a.a", "a.b.a", "a.a.b"]):
            states = list(all_houses(names, [0, 1, 2]))
            # One drawer is enough: each order of the plots is there with the plots given out otherwise.
            for old, new in itertools.product(states, states):
                for many in (1, 2, 3):
                    told = self.follows(old, new, 0, many)
                    self.assertEqual(told, moves_by_the_rule(old, new, 0, many), (old, new, many))

    def test_some_houses(self):
        chooser = random.Random(35)
        for number in range(3000):
            old = some_houses(chooser)
            new = some_houses(chooser)
            drawer = chooser.randrange(110)
            many = chooser.choice([0, 1, 2, 3, 4, 5, 8, 20])
            told = self.follows(old, new, drawer, many)
            self.assertIs(type(told), list)
            self.assertEqual(told, moves_by_the_rule(old, new, drawer, many), (old, new, drawer, many))
            self.assertEqual(moves(turned(old), turned(new), drawer, many), told)

    def changed_once(self, chooser, old):
        """The old houses but one, which came, went or holds other plots."""
        new = dict(old)
        house = chooser.choice(list(old) + ["new.1.a", "b.1.new"])
        new.pop(house, None)
        free = [plot for plot in range(11) if plot not in sum(new.values(), ())]
        if len(free) > 0 and chooser.randrange(3) > 0:
            new[house] = tuple(sorted(chooser.sample(free, chooser.randint(1, len(free)))))
        return new

    def test_just_one_house_changed(self):
        chooser = random.Random(36)
        seen = {}
        for number in range(3000):
            old = some_houses(chooser)
            new = self.changed_once(chooser, old)
            drawer = chooser.randrange(110)
            told = self.follows(old, new, drawer, chooser.randrange(8))
            self.assertLessEqual(len(told), 1)
            for loser, gainer, word, house in told:
                seen[(loser is None, gainer is None, word)] = True
        self.assertEqual(len(seen), 5)


class TheAskersOwn(unittest.TestCase):
    def test_what_is_handed_in_stays_as_it_is(self):
        old = {B: (0, 7), A: (1, 5)}
        new = {C: (2,), A: (1, 3)}
        for drawer in range(110):
            moves(old, new, drawer, 2)
        self.assertEqual(list(old.items()), [(B, (0, 7)), (A, (1, 5))])
        self.assertEqual(list(new.items()), [(C, (2,)), (A, (1, 3))])

    def test_each_list_is_a_new_one(self):
        old = {A: (0,)}
        new = {A: (0,), B: (1,)}
        told = moves(old, new, 0, 2)
        moves(old, new, 0, 2).clear()
        old.clear()
        new.clear()
        self.assertEqual(told, [(None, B, "came", B)])
        moves({}, {}, 0, 2).append(told[0])
        self.assertEqual(moves({}, {}, 0, 2), [])


if __name__ == "__main__":
    unittest.main()
