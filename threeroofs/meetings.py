"""Meetings: the shelves of two houses held against one another by books of sums."""

from threeroofs.books import Book, unlike
from threeroofs.knowing import marks
from threeroofs.notary import Notary


def book_of(notary, shelves, keys):
    book = Book(notary)
    for key in keys:
        book.put(key, marks(shelves[key]))
    return book


# One and other are dicts, each from the keys of the things that a house is home of to its shelves of them.
def unlike_shelves(one, other):
    notary = Notary()
    in_common = [key for key in one if key in other]
    return unlike(book_of(notary, one, in_common), book_of(notary, other, in_common))
