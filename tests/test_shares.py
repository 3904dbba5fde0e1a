"""Shares: point 11."""

import math
import unittest
from fractions import Fraction

from threeroofs.errors import NoShare
from threeroofs.shares import is_less, plus, share

GREAT = 10 ** 30 + 57
GREATER = 3 * 10 ** 149 + 7
NO_WHOLE_NUMBERS = [None, "", "1", [], [1], (), (1, 2), {}, {1: 1}, 1.0, 0.5, Fraction(1, 2), b"1"]


class SharesOfParts(unittest.TestCase):
    def tells(self, part, whole):
        with self.subTest(part=part, whole=whole):
            told = share(part, whole)
            self.assertIs(type(told), tuple)
            self.assertEqual([type(number) for number in told], [int, int])
            top, bottom = told
            self.assertGreaterEqual(top, 0)
            self.assertGreaterEqual(bottom, 1)
            self.assertEqual(math.gcd(top, bottom), 1)
            self.assertEqual(top * whole, part * bottom)

    def test_ordinary_shares(self):
        self.assertEqual(share(1, 2), (1, 2))
        self.assertEqual(share(2, 4), (1, 2))
        self.assertEqual(share(6, 4), (3, 2))
        self.assertEqual(share(12, 18), (2, 3))
        self.assertEqual(share(7, 1), (7, 1))
        self.assertEqual(share(11, 11), (1, 1))

    def test_nought(self):
        for whole in (1, 2, 11, GREAT):
            with self.subTest(whole=whole):
                self.assertEqual(share(0, whole), (0, 1))

    def test_part_greater_than_the_whole(self):
        self.assertEqual(share(3, 2), (3, 2))
        self.assertEqual(share(4, 2), (2, 1))
        self.assertEqual(share(GREAT * 6, 4), (GREAT * 3, 2))

    def test_lowest_terms_of_all_small_parts(self):
        for whole in range(1, 61):
            for part in range(0, 125):
                self.tells(part, whole)

    def test_great_numbers(self):
        self.assertEqual(share(GREAT * 12, GREAT * 18), (2, 3))
        self.assertEqual(share(GREAT, GREAT), (1, 1))
        self.assertEqual(share(GREAT * 4, 6), (GREAT * 2, 3))
        self.assertEqual(share(5, 10 ** 40), (1, 2 * 10 ** 39))
        # Beyond what a float can tell apart.
        self.assertEqual(share(10 ** 40, 10 ** 40 + 1), (10 ** 40, 10 ** 40 + 1))
        for part in (1, 2 ** 100, 3 ** 70, GREAT, GREATER, GREATER * GREAT):
            for whole in (1, 2 ** 99, 6 ** 50, GREAT * 9, GREATER, GREATER * 14):
                self.tells(part, whole)

    def test_neighbours_in_fibonaccis_row(self):
        one, other = 1, 1
        while other < 10 ** 299:
            one, other = other, one + other
        self.assertEqual(share(one, other), (one, other))
        self.assertEqual(share(other * 6, one * 6), (other, one))


class RefusedShares(unittest.TestCase):
    def refuses(self, part, whole):
        with self.subTest(part=part, whole=whole):
            with self.assertRaises(NoShare):
                share(part, whole)

    def test_part_that_is_no_whole_number(self):
        for thing in NO_WHOLE_NUMBERS + [True, False]:
            self.refuses(thing, 3)

    def test_whole_that_is_no_whole_number(self):
        for thing in NO_WHOLE_NUMBERS + [True, False]:
            self.refuses(3, thing)

    def test_neither_is_a_whole_number(self):
        self.refuses("a", "b")
        self.refuses(True, True)

    def test_part_below_nought(self):
        for part in (-1, -2, -GREAT):
            self.refuses(part, 3)
        self.refuses(-3, -3)

    def test_whole_below_one(self):
        for whole in (0, -1, -2, -GREAT):
            self.refuses(3, whole)
            self.refuses(0, whole)

    def test_edges_that_are_not_refused(self):
        self.assertEqual(share(0, 1), (0, 1))
        self.assertEqual(share(1, 1), (1, 1))


class SharesTogether(unittest.TestCase):
    def setUp(self):
        pairs = [(part, whole) for whole in range(1, 10) for part in range(0, 12)]
        pairs += [(GREAT, 3), (1, GREAT), (GREAT, GREAT + 1), (GREAT + 1, GREAT + 2), (GREATER, GREAT), (GREAT, GREATER)]
        self.shares = sorted({share(part, whole) for part, whole in pairs})

    def test_sums_in_lowest_terms(self):
        self.assertEqual(plus((1, 2), (1, 3)), (5, 6))
        self.assertEqual(plus((1, 6), (1, 3)), (1, 2))
        self.assertEqual(plus((1, 4), (3, 4)), (1, 1))
        self.assertEqual(plus((3, 2), (3, 2)), (3, 1))

    def test_nought_added(self):
        self.assertEqual(plus((0, 1), (0, 1)), (0, 1))
        self.assertEqual(plus((0, 1), (2, 3)), (2, 3))
        self.assertEqual(plus((2, 3), (0, 1)), (2, 3))

    def test_all_sums(self):
        for one in self.shares:
            for other in self.shares:
                with self.subTest(one=one, other=other):
                    wanted = Fraction(*one) + Fraction(*other)
                    told = plus(one, other)
                    self.assertIs(type(told), tuple)
                    self.assertEqual(told, (wanted.numerator, wanted.denominator))

    def test_less_both_ways_and_of_equal_shares(self):
        self.assertIs(is_less((1, 3), (1, 2)), True)
        self.assertIs(is_less((1, 2), (1, 3)), False)
        self.assertIs(is_less((1, 2), (1, 2)), False)
        self.assertIs(is_less((0, 1), (1, GREAT)), True)
        self.assertIs(is_less((0, 1), (0, 1)), False)
        self.assertIs(is_less((GREAT, GREAT + 1), (GREAT + 1, GREAT + 2)), True)
        self.assertIs(is_less((GREAT + 1, GREAT + 2), (GREAT, GREAT + 1)), False)

    def test_less_of_all(self):
        for one in self.shares:
            for other in self.shares:
                with self.subTest(one=one, other=other):
                    self.assertIs(is_less(one, other), Fraction(*one) < Fraction(*other))


if __name__ == "__main__":
    unittest.main()
