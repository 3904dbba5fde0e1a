"""The classes of refusals: point 4 and the interface of threeroofs/errors.py."""

import unittest

from threeroofs import errors

ONE_VALUE = [
    ("NoHouse", "house"),
    ("OldHouse", "house"),
    ("LastHouse", "house"),
    ("Away", "house"),
    ("NoThing", "thing"),
    ("OldThing", "thing"),
    ("NoAsker", "asker"),
    ("NoLetter", "letter"),
    ("NoAsk", "ask"),
    ("NoRow", "row"),
]
NO_VALUE = ["NoPlots", "NoShare", "NoCounts", "NoValue"]
ALL = [name for name, value in ONE_VALUE] + ["PlotTaken"] + NO_VALUE

HANDED_IN = ["", "north.2.a", 0, -1, 10 ** 5000, True, None, [1, [2]], (1, 2), {"a": 1}]


class ErrorClasses(unittest.TestCase):
    def test_roof_error_stands_under_value_error(self):
        self.assertEqual(errors.RoofError.__bases__, (ValueError,))

    def test_each_class_stands_right_under_roof_error(self):
        for name in ALL:
            with self.subTest(name):
                self.assertEqual(getattr(errors, name).__bases__, (errors.RoofError,))

    def test_each_class_is_one_of_its_own(self):
        self.assertEqual(len({getattr(errors, name) for name in ALL}), 15)

    def test_one_value_is_the_thing_handed_in(self):
        for name, value in ONE_VALUE:
            for number, thing in enumerate(HANDED_IN):
                with self.subTest(name, number=number):
                    held = getattr(getattr(errors, name)(thing), value)
                    self.assertIs(type(held), type(thing))
                    self.assertTrue(held == thing)

    def test_plot_taken_has_the_plot_and_the_house_in_this_order(self):
        error = errors.PlotTaken(7, "north.2.a")
        self.assertEqual(error.plot, 7)
        self.assertEqual(error.house, "north.2.a")

    def test_values_belong_to_each_object(self):
        one = errors.NoHouse("a.a.a")
        other = errors.NoHouse("b.b.b")
        self.assertEqual((one.house, other.house), ("a.a.a", "b.b.b"))

    def test_the_others_are_made_with_any_text(self):
        for name in NO_VALUE:
            for text in ("", "some words"):
                with self.subTest(name, text=text):
                    self.assertIsInstance(getattr(errors, name)(text), errors.RoofError)

    def test_each_is_taken_as_roof_error_and_as_value_error(self):
        made = [getattr(errors, name)("x") for name in ALL if name != "PlotTaken"]
        for error in made + [errors.PlotTaken(1, "a.a.a")]:
            for base in (errors.RoofError, ValueError):
                with self.subTest(error=error, base=base):
                    with self.assertRaises(base) as taken:
                        raise error
                    self.assertIs(taken.exception, error)


if __name__ == "__main__":
    unittest.main()
