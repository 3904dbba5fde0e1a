"""Rows, their words and numbers: point 80."""

import itertools
import unittest

from threeroofs.errors import NoRow
from threeroofs.rows import is_number, read_row

from samples import LISTED_ROWS, NO_NUMBER_WORDS, NO_TEXTS, refused

NUMBERS = ["0", "1", "9", "10", "100", "123456789", "999999999", "100000000"]


class Numbers(unittest.TestCase):
    def test_numbers(self):
        for word in NUMBERS:
            self.assertIs(is_number(word), True)

    def test_no_numbers(self):
        for word in NO_NUMBER_WORDS + ["1 ", " 1", " ", "1 0"]:
            with self.subTest(word=word):
                self.assertIs(is_number(word), False)

    def test_all_short_words_of_figures_and_others(self):
        for length in range(1, 4):
            for signs in itertools.product("019a-", repeat=length):
                word = "".join(signs)
                wanted = word.isdigit() and (word == "0" or not word.startswith("0"))
                self.assertIs(is_number(word), wanted)

    def test_each_sign(self):
        for number in range(32, 127):
            sign = chr(number)
            self.assertIs(is_number(sign), "0" <= sign <= "9")
            self.assertIs(is_number("1" + sign), "0" <= sign <= "9")

    def test_how_many_figures(self):
        for many in range(1, 30):
            self.assertIs(is_number("1" + "0" * (many - 1)), many <= 9)
            self.assertIs(is_number("9" * many), many <= 9)


class Rows(unittest.TestCase):
    def no_row(self, row):
        with self.subTest(row=row):
            refused(self, NoRow, "row", row, read_row, row)

    def test_each_row(self):
        for row, words in LISTED_ROWS.items():
            with self.subTest(row=row):
                read = read_row(row)
                self.assertEqual(read, words)
                self.assertEqual([word.__class__ for word in read], [word.__class__ for word in words])

    def test_each_number_at_each_of_its_places(self):
        for row, words in LISTED_ROWS.items():
            for place, word in enumerate(words):
                if isinstance(word, int):
                    for number in NUMBERS:
                        told = row.split(" ")
                        told[place] = number
                        self.assertEqual(read_row(" ".join(told)), words[:place] + [int(number)] + words[place + 1:])

    def test_another_word_at_a_numbers_place(self):
        for row, words in LISTED_ROWS.items():
            for place, word in enumerate(words):
                if isinstance(word, int):
                    for other in NO_NUMBER_WORDS:
                        told = row.split(" ")
                        told[place] = other
                        self.no_row(" ".join(told))

    def test_any_word_at_a_words_place(self):
        for row, words in LISTED_ROWS.items():
            for place, word in enumerate(words):
                if place > 0 and isinstance(word, str):
                    for other in NUMBERS + NO_NUMBER_WORDS:
                        told = row.split(" ")
                        told[place] = other
                        self.assertEqual(read_row(" ".join(told)), words[:place] + [other] + words[place + 1:])

    def test_fewer_words(self):
        for row, words in LISTED_ROWS.items():
            for many in range(len(words)):
                told = " ".join(row.split(" ")[:many])
                if told not in ("come a.1.a", "weigh a.1.a") and not told.startswith(("come a.1.a ", "weigh a.1.a ")):
                    self.no_row(told)

    def test_more_words(self):
        for row in LISTED_ROWS:
            for more in (" ", " x", "  ", " a.1.a", " 0", " 7 7"):
                if not (row.startswith(("come", "weigh")) and more in (" 0", " 7 7")):
                    self.no_row(row + more)

    def test_as_many_plots_as_you_like(self):
        for word in ("come", "weigh"):
            for many in range(30):
                plots = list(range(many))
                self.assertEqual(read_row(" ".join([word, "a.1.a"] + [str(plot) for plot in plots])),
                                 [word, "a.1.a"] + plots)

    def test_blanks_at_the_begin_and_at_the_end(self):
        for row in LISTED_ROWS:
            self.no_row(" " + row)
            self.no_row(row + " ")

    def test_two_blanks(self):
        """There is a word more than listed, and of come and weigh one at a plot's place that is no number."""
        for row in LISTED_ROWS:
            for place in [place for place, sign in enumerate(row) if sign == " "]:
                self.no_row(row[:place] + " " + row[place:])

    def test_a_word_without_signs(self):
        self.assertEqual(read_row("go "), ["go", ""])
        self.assertEqual(read_row("fall "), ["fall", ""])
        self.assertEqual(read_row("come "), ["come", ""])
        self.assertEqual(read_row("come  4"), ["come", "", 4])
        self.assertEqual(read_row("weigh "), ["weigh", ""])
        self.assertEqual(read_row("write  0 v"), ["write", "", 0, "v"])
        self.assertEqual(read_row("write x 0 "), ["write", "x", 0, ""])
        self.assertEqual(read_row("write  0 "), ["write", "", 0, ""])
        self.assertEqual(read_row("meet  "), ["meet", "", ""])
        self.assertEqual(read_row("shelf  0"), ["shelf", "", 0])
        for row in ("come a.1.a ", "come a.1.a  4", "come a.1.a 4  5", "weigh a.1.a 4 ", "homes ", "write x  v",
                    "thing 0 1 1 ", "ask ", "read x ", "go  ", "away ", "mend ", "meet a.1.a b.1.a "):
            self.no_row(row)

    def test_a_first_word_that_is_not_listed(self):
        for word in ("", "Come", "COME", "comes", "com", "say", "declare", "things", "houses", "rehouse", "lay",
                     "status", "found", "counts_of", "0", "-", "n", "w", "letter", "\n", "mend\n", "letters\t"):
            for rest in ("", " a.1.a", " 0", " x 0", " x 0 v"):
                self.no_row(word + rest)

    def test_only_blanks_part_words(self):
        for row in ("go\ta.1.a", "go\na.1.a", "homes\n7", "mend\n", "\nmend", "homes 7\n", "homes\t7"):
            self.no_row(row)
        self.assertEqual(read_row("go a.1.a\n"), ["go", "a.1.a\n"])
        self.assertEqual(read_row("write x 0 v\tw"), ["write", "x", 0, "v\tw"])

    def test_what_is_no_text(self):
        for row in NO_TEXTS:
            self.no_row(row)

    def test_what_is_given_is_the_askers_own(self):
        for row, words in LISTED_ROWS.items():
            read_row(row).clear()
            read_row(row).append("x")
            self.assertEqual(read_row(row), words)


if __name__ == "__main__":
    unittest.main()
