"""Notaries: point 60."""

import random
import unittest

from threeroofs.notary import Notary

GREATEST = 10 ** 40 - 1
CONTENTS = [
    (0, 1), (1, 0), (1, 1), (1, 2), (2, 1), (0, GREATEST), (GREATEST, 0), (GREATEST, GREATEST),
    (GREATEST, GREATEST - 1),
    (("x", 0),), (("x", 1),), (("y", 1),), (("", 0),), (("x", 1), ("y", 1)), (("y", 1), ("x", 1)), (("x", 1), ("x", 1)),
    (("x", 0), ("y", 0)), (("0", 0), ("0", 0)), (("xy", 1),), (("x", 12),), (("x1", 2),), (("~" * 40, GREATEST),),
    tuple((f"a{number}", number) for number in range(40)), tuple((f"a{number}", number) for number in range(39)),
]


def drawn_content(chooser, given):
    """A content out of few, so that equal ones come again; numbers that were given are among those in it."""
    numbers = [0, 1, 2, GREATEST] + given
    if chooser.random() < 0.5:
        return (chooser.choice(numbers), chooser.choice(numbers))
    return tuple((chooser.choice("xyz"), chooser.choice(numbers)) for number in range(chooser.randrange(3)))


class Sealing(unittest.TestCase):
    def test_nought(self):
        notary = Notary()
        for time in range(3):
            self.assertEqual((notary.seal(()), notary.seal((0, 0))), (0, 0))
            for content in CONTENTS:
                notary.seal(content)

    def test_whole_numbers_from_1_on(self):
        notary = Notary()
        for content in CONTENTS:
            number = notary.seal(content)
            self.assertIs(number.__class__, int)
            self.assertGreaterEqual(number, 1)
        self.assertIs(notary.seal(()).__class__, int)

    def test_to_equal_contents_the_same_again_and_again(self):
        notary = Notary()
        first = {content: notary.seal(content) for content in CONTENTS}
        for time in range(3):
            for content in reversed(CONTENTS):
                self.assertEqual(notary.seal(tuple(list(content))), first[content])

    def test_to_unequal_contents_unlike_ones(self):
        notary = Notary()
        numbers = [notary.seal(content) for content in CONTENTS]
        self.assertEqual(len(set(numbers)), len(CONTENTS))

    def test_many_drawn(self):
        for seed in range(10):
            chooser = random.Random(seed)
            notary = Notary()
            known = {(): 0, (0, 0): 0}
            for time in range(400):
                content = drawn_content(chooser, sorted(set(known.values()))[:20])
                number = notary.seal(content)
                if content not in known:
                    self.assertGreaterEqual(number, 1)
                    self.assertNotIn(number, known.values())
                self.assertEqual(known.setdefault(content, number), number)

    def test_numbers_given_may_be_shown(self):
        notary = Notary()
        number = notary.seal((("x", 1),))
        above = notary.seal((number, number))
        self.assertEqual(len({0, number, above, notary.seal((0, number)), notary.seal((above, number))}), 5)


class TwoNotaries(unittest.TestCase):
    def test_what_is_shown_to_one_changes_nothing_for_another(self):
        lone = [Notary().seal(content) for content in CONTENTS]
        one = Notary()
        wanted = [one.seal(content) for content in CONTENTS]
        other = Notary()
        third = Notary()
        for content in reversed(CONTENTS):
            third.seal(content)
        self.assertEqual([other.seal(content) for content in CONTENTS], wanted)
        self.assertEqual([Notary().seal(content) for content in CONTENTS], lone)
        self.assertEqual([one.seal(content) for content in CONTENTS], wanted)


if __name__ == "__main__":
    unittest.main()
