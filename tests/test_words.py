"""Kinds and bounds, roofs and rooms: points 2 and 10."""

import string
import unittest

from threeroofs.words import is_house, is_key, is_value, is_whole, is_word, room_of, roof_of

WORD_SIGNS = string.ascii_lowercase + string.digits
# The blank and all above it in ASCII, less the per cent sign of which nothing is promised.
ASCII_SIGNS = [chr(number) for number in range(32, 128) if chr(number) != "%"] + ["\n", "\t"]
VALUE_SIGNS = [sign for sign in ASCII_SIGNS if 33 <= ord(sign) <= 126]

OTHER_KINDS = [None, [], ["a"], ["a", "b", "c"], [1], (), ("a",), ("a", "b", "c"), (1,), {}, {"a": 1}, {1: "a"}]
OTHER_KINDS += [1.0, 0.0, b"a", b"a.b.c", {"a"}, object(), str, int, len, range(3), float("nan")]
TEXTS = ["", "a", "0", "1", "12", "a.b.c", "0.0.0", "True", "!", "~"]
NUMBERS = [0, 1, 255, 256, -1, 10 ** 40, -10 ** 40]


class Asking(unittest.TestCase):
    def says(self, ask, expected, thing):
        with self.subTest(ask=ask.__name__, thing=thing):
            self.assertIs(ask(thing), expected)

    def says_all(self, ask, expected, things):
        for thing in things:
            self.says(ask, expected, thing)

    def says_of_sign_anywhere(self, ask, expected, sign, other):
        self.says_all(ask, expected, [sign, sign + other, other + sign, other + sign + other])


class WholeNumbers(Asking):
    def test_ints_are_whole_numbers(self):
        self.says_all(is_whole, True, NUMBERS + [2 ** 64, 10 ** 400])

    def test_truths_are_none(self):
        self.says_all(is_whole, False, [True, False])

    def test_other_kinds_are_none(self):
        self.says_all(is_whole, False, OTHER_KINDS + TEXTS)


class Words(Asking):
    def test_lengths(self):
        for length in range(0, 20):
            self.says(is_word, 1 <= length <= 8, "a" * length)
            self.says(is_word, 1 <= length <= 8, "9" * length)
        self.says(is_word, False, "a" * 10000)

    def test_each_sign_at_the_begin_amid_and_at_the_end(self):
        for sign in ASCII_SIGNS:
            self.says_of_sign_anywhere(is_word, sign in WORD_SIGNS, sign, "m5")

    def test_signs_beside_those_allowed(self):
        for sign in "`{/:AZ._- \n\t":
            self.says_of_sign_anywhere(is_word, False, sign, "a")
        for sign in "az09":
            self.says_of_sign_anywhere(is_word, True, sign, "a")

    def test_eight_signs_and_a_line_end(self):
        self.says_all(is_word, False, ["abcdefgh\n", "abcdefg\n", "\nabcdefg", "\n", "\t"])

    def test_words_of_letters_and_figures_together(self):
        self.says_all(is_word, True, ["north", "2", "a", "a1b2c3d4", "00000000", "zzzzzzzz", "0"])

    def test_other_kinds_are_none(self):
        self.says_all(is_word, False, OTHER_KINDS + NUMBERS + [True, False])


class HouseNames(Asking):
    def test_names(self):
        self.says_all(is_house, True, ["north.2.a", "a.a.a", "0.0.0", "abcdefgh.12345678.z9z9z9z9"])

    def test_fewer_and_more_than_three_words(self):
        self.says_all(is_house, False, ["", "a", "a.b", "a.b.c.d", "a.b.c.d.e", "abc", "a b c", "a,b,c"])

    def test_empty_words(self):
        self.says_all(is_house, False, [".", "..", "...", ".b.c", "a..c", "a.b.", "a..", "..c", ".b.", ".a.b.c", "a.b.c."])

    def test_each_word_has_eight_signs_at_most(self):
        for place in range(3):
            for length in range(0, 12):
                words = ["x", "y", "z"]
                words[place] = "m" * length
                self.says(is_house, 1 <= length <= 8, ".".join(words))

    def test_each_sign_in_each_word(self):
        for sign in ASCII_SIGNS:
            for place in range(3):
                for word in (sign, sign + "m5", "m" + sign + "5", "m5" + sign):
                    words = ["x", "y", "z"]
                    words[place] = word
                    self.says(is_house, sign in WORD_SIGNS, ".".join(words))

    def test_line_ends_and_tabs(self):
        self.says_all(is_house, False, ["a.b.c\n", "\na.b.c", "a.b\n.c", "a.b.c\t", "\ta.b.c", "a.\tb.c", "a\nb\nc"])

    def test_other_kinds_are_none(self):
        self.says_all(is_house, False, OTHER_KINDS + NUMBERS + [True, False])


class Values(Asking):
    def test_lengths(self):
        for length in range(0, 60):
            self.says(is_value, 1 <= length <= 40, "!" * length)
            self.says(is_value, 1 <= length <= 40, "~" * length)
        self.says(is_value, False, "v" * 10000)

    def test_each_sign_at_the_begin_amid_and_at_the_end(self):
        for sign in ASCII_SIGNS:
            self.says_of_sign_anywhere(is_value, sign in VALUE_SIGNS, sign, "m5")

    def test_signs_beside_those_allowed(self):
        for sign in " \x7f\n\t":
            self.says_of_sign_anywhere(is_value, False, sign, "v")
        for sign in "!~":
            self.says_of_sign_anywhere(is_value, True, sign, "v")

    def test_forty_signs_and_a_line_end(self):
        self.says_all(is_value, False, ["v" * 40 + "\n", "v" * 39 + "\n", "\n" + "v" * 39])

    def test_other_kinds_are_none(self):
        self.says_all(is_value, False, OTHER_KINDS + NUMBERS + [True, False])


class Keys(Asking):
    def test_bounds(self):
        for number in range(-300, 600):
            self.says(is_key, 0 <= number <= 255, number)

    def test_very_great_numbers_and_very_small_ones(self):
        self.says_all(is_key, False, [2 ** 64, -2 ** 64, 10 ** 400, -10 ** 400])

    def test_truths_are_none(self):
        self.says_all(is_key, False, [True, False])

    def test_other_kinds_are_none(self):
        self.says_all(is_key, False, OTHER_KINDS + TEXTS)


class RoofsAndRooms(unittest.TestCase):
    def test_roof_is_the_first_word(self):
        self.assertEqual(roof_of("north.2.a"), "north")
        self.assertEqual(roof_of("0.1.2"), "0")
        self.assertEqual(roof_of("abcdefgh.b.c"), "abcdefgh")

    def test_room_is_told_by_the_first_two_words(self):
        self.assertEqual(room_of("north.2.a"), "north.2")
        self.assertEqual(room_of("0.1.2"), "0.1")
        self.assertEqual(room_of("abcdefgh.12345678.c"), "abcdefgh.12345678")

    def test_words_that_are_alike(self):
        self.assertEqual(roof_of("a.a.a"), "a")
        self.assertEqual(room_of("a.a.a"), "a.a")

    def test_two_houses_share_a_room_just_where_their_first_two_words_are_the_same(self):
        words = ["a", "b", "ab", "1", "11"]
        names = [(one, two, own) for one in words for two in words for own in ("a", "1")]
        for first in names:
            for second in names:
                with self.subTest(first=first, second=second):
                    one = ".".join(first)
                    other = ".".join(second)
                    self.assertEqual(roof_of(one) == roof_of(other), first[0] == second[0])
                    self.assertEqual(room_of(one) == room_of(other), first[:2] == second[:2])


class NothingHandedInIsChanged(unittest.TestCase):
    def test_lists_and_dicts_stay_as_they_are(self):
        for ask in (is_whole, is_word, is_house, is_value, is_key):
            with self.subTest(ask.__name__):
                things = [["b", "a"], {"b": 1, "a": [2]}]
                for thing in things:
                    ask(thing)
                self.assertEqual(things, [["b", "a"], {"b": 1, "a": [2]}])


if __name__ == "__main__":
    unittest.main()
