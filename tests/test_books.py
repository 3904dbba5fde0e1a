"""Books of sums: points 61 to 63."""

import random
import unittest

from threeroofs.books import Book, stretch, unlike
from threeroofs.notary import Notary

X = (("x", 1),)
Y = (("y", 1),)
XY = (("x", 1), ("y", 1))
CONTENTS = [(), X, Y, XY, (("x", 2),)]


def halves():
    """Each node's stretch, by halving from node 1 on."""
    stretches = {1: (0, 255)}
    for node in range(1, 256):
        first, last = stretches[node]
        middle = (first + last) // 2
        stretches[2 * node] = (first, middle)
        stretches[2 * node + 1] = (middle + 1, last)
    return stretches


STRETCHES = halves()


def book_of(notary, contents):
    book = Book(notary)
    for place, content in contents.items():
        book.put(place, content)
    return book


def sum_by_the_rule(notary, contents, node):
    """Point 62, from the contents alone."""
    if node >= 256:
        return notary.seal(contents.get(node - 256, ()))
    return notary.seal((sum_by_the_rule(notary, contents, 2 * node), sum_by_the_rule(notary, contents, 2 * node + 1)))


def asked(one, other):
    """Point 63, from the contents alone: the nodes asked, in their order."""
    differ = [place for place in range(256) if one.get(place, ()) != other.get(place, ())]

    def ask(node):
        first, last = STRETCHES[node]
        if node >= 256 or not [place for place in differ if first <= place <= last]:
            return [node]
        return [node] + ask(2 * node) + ask(2 * node + 1)

    return (differ, ask(1))


def sums(book):
    return [book.sum_of(node) for node in range(1, 512)]


def drawn_contents(chooser, many):
    return {place: chooser.choice(CONTENTS) for place in chooser.sample(range(256), many)}


class Stretches(unittest.TestCase):
    def test_all_nodes(self):
        self.assertEqual({node: stretch(node) for node in range(1, 512)}, STRETCHES)

    def test_some_nodes(self):
        for node, wanted in ((1, (0, 255)), (2, (0, 127)), (3, (128, 255)), (5, (64, 127)), (255, (254, 255)),
                             (256, (0, 0)), (511, (255, 255)), (128, (0, 1))):
            self.assertEqual(stretch(node), wanted)


class Sums(unittest.TestCase):
    def test_an_empty_book(self):
        self.assertEqual(sums(Book(Notary())), [0] * 511)

    def test_a_place(self):
        notary = Notary()
        for place in (0, 1, 100, 254, 255):
            book = Book(notary)
            self.assertIsNone(book.put(place, X))
            self.assertEqual(book.sum_of(256 + place), notary.seal(X))
            above = [node for node in range(1, 512) if STRETCHES[node][0] <= place <= STRETCHES[node][1]]
            self.assertEqual([node for node in range(1, 512) if book.sum_of(node) != 0], above)

    def test_the_sums_are_the_notarys_numbers(self):
        chooser = random.Random(62)
        for many in (1, 2, 5, 40, 256):
            notary = Notary()
            contents = drawn_contents(chooser, many)
            book = book_of(notary, contents)
            for node in range(1, 512):
                self.assertEqual(book.sum_of(node), sum_by_the_rule(notary, contents, node))

    def test_the_two_parts_are_not_taken_for_one_another(self):
        notary = Notary()
        one = book_of(notary, {0: X, 1: Y})
        other = book_of(notary, {0: Y, 1: X})
        self.assertNotEqual(one.sum_of(128), other.sum_of(128))
        self.assertNotEqual(one.sum_of(1), other.sum_of(1))
        one = book_of(notary, {0: X})
        other = book_of(notary, {1: X})
        self.assertNotEqual(one.sum_of(128), other.sum_of(128))

    def test_equal_just_where_the_contents_are(self):
        chooser = random.Random(63)
        for time in range(30):
            notary = Notary()
            first = drawn_contents(chooser, chooser.randrange(30))
            second = dict(first)
            second.update(drawn_contents(chooser, chooser.randrange(4)))
            one = book_of(notary, first)
            other = book_of(notary, second)
            for node in range(1, 512):
                places = range(STRETCHES[node][0], STRETCHES[node][1] + 1)
                alike = all(first.get(place, ()) == second.get(place, ()) for place in places)
                self.assertEqual(one.sum_of(node) == other.sum_of(node), alike)
                self.assertEqual(one.sum_of(node) == 0, all(first.get(place, ()) == () for place in places))

    def test_put_changed_and_emptied_again(self):
        notary = Notary()
        book = Book(notary)
        contents = {}
        chooser = random.Random(64)
        for time in range(80):
            place = chooser.choice([0, 1, 2, 3, 127, 128, 255])
            contents[place] = chooser.choice(CONTENTS)
            book.put(place, contents[place])
            self.assertEqual(sums(book), sums(book_of(notary, contents)))
        for place in contents:
            book.put(place, ())
        self.assertEqual(sums(book), [0] * 511)

    def test_in_which_order_and_how_often_contents_are_put_does_not_matter(self):
        notary = Notary()
        one = book_of(notary, {5: X, 200: Y, 7: XY})
        other = book_of(notary, {7: X, 200: X, 6: Y})
        for place, content in ((200, Y), (6, ()), (7, XY), (5, X), (5, X)):
            other.put(place, content)
        self.assertEqual(sums(one), sums(other))

    def test_asking_changes_nothing(self):
        book = book_of(Notary(), {5: X, 200: Y})
        self.assertEqual(sums(book), sums(book))

    def test_two_books_of_one_notary(self):
        notary = Notary()
        one = Book(notary)
        other = Book(notary)
        one.put(9, X)
        self.assertEqual(sums(other), [0] * 511)

    def test_the_notary_goes_on(self):
        notary = Notary()
        book = book_of(notary, {9: X})
        before = sums(book)
        for number in range(50):
            notary.seal((number, number + 1))
        self.assertEqual(sums(book), before)
        other = book_of(notary, {9: X})
        self.assertEqual(sums(other), before)

    def test_contents_as_great_as_they_may_be(self):
        notary = Notary()
        great = tuple(("~" * 38 + str(number), 10 ** 40 - 1 - number) for number in range(10, 50))
        book = book_of(notary, {0: great})
        self.assertEqual(book.sum_of(256), notary.seal(great))
        self.assertEqual(unlike(book, book_of(notary, {0: great[:-1]}))[0], [0])


class Unlike(unittest.TestCase):
    def held(self, first, second):
        notary = Notary()
        one = book_of(notary, first)
        other = book_of(notary, second)
        before = (sums(one), sums(other))
        found = unlike(one, other)
        self.assertEqual((sums(one), sums(other)), before)
        self.assertEqual(unlike(one, other), found)
        self.assertEqual(unlike(other, one), found)
        return found

    def test_no_unlike_place(self):
        for contents in ({}, {3: X}, {place: X for place in range(256)}):
            self.assertEqual(self.held(contents, contents), ([], [1]))
        self.assertEqual(self.held({3: X, 4: ()}, {3: X}), ([], [1]))

    def test_the_same_book(self):
        book = book_of(Notary(), {3: X})
        self.assertEqual(unlike(book, book), ([], [1]))

    def test_one_unlike_place(self):
        for place in range(256):
            for first, second in (({place: X}, {}), ({}, {place: X}), ({place: X}, {place: XY})):
                places, nodes = self.held(first, second)
                self.assertEqual(places, [place])
                self.assertEqual(len(nodes), 17)
                self.assertEqual(nodes, asked(first, second)[1])

    def test_the_order_of_asking(self):
        nodes = [1, 2, 4, 8, 16, 32, 64, 128, 256, 257, 129, 65, 33, 17, 9, 5, 3]
        self.assertEqual(self.held({0: X}, {}), ([0], nodes))
        self.assertEqual(self.held({255: X}, {})[1],
                         [1, 2, 3, 6, 7, 14, 15, 30, 31, 62, 63, 126, 127, 254, 255, 510, 511])
        self.assertEqual(self.held({0: X, 1: X}, {0: Y}), ([0, 1], nodes))

    def test_all_unlike(self):
        places, nodes = self.held({place: X for place in range(256)}, {place: Y for place in range(256)})
        self.assertEqual(places, list(range(256)))
        self.assertEqual(sorted(nodes), list(range(1, 512)))
        self.assertEqual(len(nodes), 511)
        self.assertEqual(nodes, asked({place: X for place in range(256)}, {})[1])

    def test_drawn_contents(self):
        chooser = random.Random(65)
        for many in list(range(12)) * 5 + [40, 100, 256]:
            first = drawn_contents(chooser, chooser.randrange(60))
            second = dict(first)
            second.update(drawn_contents(chooser, many))
            places, nodes = self.held(first, second)
            self.assertEqual((places, nodes), asked(first, second))
            self.assertLessEqual(len(nodes), 1 + 16 * len(places))
            self.assertEqual(len(set(nodes)), len(nodes))

    def test_what_is_given_is_the_askers_own(self):
        notary = Notary()
        one = book_of(notary, {0: X})
        other = Book(notary)
        given = unlike(one, other)
        given[0].clear()
        given[1].clear()
        self.assertEqual(unlike(one, other)[0], [0])
        kept = unlike(one, other)
        other.put(0, X)
        self.assertEqual((kept[0], unlike(one, other)), ([0], ([], [1])))


if __name__ == "__main__":
    unittest.main()
