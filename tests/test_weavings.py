"""Weavings of a write and a read: points 90 to 93."""

import itertools
import math
import unittest

from threeroofs.desk import Desk
from threeroofs.errors import NoCounts
from threeroofs.weavings import missed, misses, rows_of, weavings

from drawn import COUNTS

WRONG = [0, -1, 6, 10 ** 30, True, False, None, "", "1", 1.0, [], [1], (), (1,), {}, {1: 1}, {1}, b"1"]


def sets_of(homes):
    """All sets of the homes, each as a tuple."""
    return [row for many in range(len(homes) + 1) for row in itertools.combinations(homes, many)]


def number_of(homes):
    return sum(2 ** home for home in homes)


def homes_of(number):
    return [home for home in range(5) if number >> home & 1]


def woven(copies, reads, writes):
    """Point 90, by sets of homes."""
    told = []
    for had in itertools.combinations(range(copies), writes):
        for late in sets_of([home for home in range(copies) if home not in had]):
            for heard in itertools.combinations(range(copies), reads):
                told.append((number_of(had), number_of(late), number_of(heard)))
    return sorted(told)


def no_counts():
    """Counts that a thing may not be declared with."""
    for count in WRONG:
        yield from ((count, 1, 1), (3, count, 1), (3, 1, count), (count, count, count))
    for copies in range(1, 6):
        yield from ((copies, copies + 1, 1), (copies, 1, copies + 1), (copies, copies + 1, copies + 1))
    yield from ((6, 6, 6), (0, 0, 0), (6, 3, 3))


class Weavings(unittest.TestCase):
    def test_all_counts(self):
        for counts in COUNTS:
            with self.subTest(counts=counts):
                told = weavings(*counts)
                self.assertEqual(told, woven(*counts))
                self.assertEqual(len(set(told)), len(told))

    def test_how_many(self):
        for copies, reads, writes in COUNTS:
            wanted = math.comb(copies, writes) * 2 ** (copies - writes) * math.comb(copies, reads)
            self.assertEqual(len(weavings(copies, reads, writes)), wanted)

    def test_as_written(self):
        self.assertEqual(weavings(1, 1, 1), [(1, 0, 1)])
        self.assertEqual(weavings(2, 1, 1),
                         [(1, 0, 1), (1, 0, 2), (1, 2, 1), (1, 2, 2), (2, 0, 1), (2, 0, 2), (2, 1, 1), (2, 1, 2)])
        self.assertEqual(weavings(2, 2, 1), [(1, 0, 3), (1, 2, 3), (2, 0, 3), (2, 1, 3)])
        self.assertEqual(weavings(2, 1, 2), [(3, 0, 1), (3, 0, 2)])

    def test_no_counts(self):
        for counts in no_counts():
            with self.subTest(counts=counts):
                for refusing in (weavings, missed):
                    with self.assertRaises(NoCounts) as taken:
                        refusing(*counts)
                    self.assertIs(taken.exception.__class__, NoCounts)
                with self.assertRaises(NoCounts):
                    rows_of(*counts, (1, 0, 1))

    def test_what_is_given_is_the_askers_own(self):
        weavings(1, 1, 1).clear()
        missed(2, 1, 1).clear()
        rows_of(1, 1, 1, (1, 0, 1)).clear()
        self.assertEqual((weavings(1, 1, 1), missed(2, 1, 1)), ([(1, 0, 1)], [(1, 0, 2), (2, 0, 1)]))
        self.assertEqual(len(rows_of(1, 1, 1, (1, 0, 1))), 8)


class Missing(unittest.TestCase):
    def test_of_any_three_sets(self):
        for had in range(32):
            for late in range(32):
                for heard in range(32):
                    wanted = not set(homes_of(heard)) & (set(homes_of(had)) | set(homes_of(late)))
                    self.assertIs(misses((had, late, heard)), wanted)

    def test_those_that_miss_in_the_same_order(self):
        for counts in COUNTS:
            wanted = [weaving for weaving in woven(*counts) if not weaving[2] & (weaving[0] | weaving[1])]
            self.assertEqual(missed(*counts), wanted)

    def test_how_many(self):
        for copies, reads, writes in COUNTS:
            wanted = 0
            if reads + writes <= copies:
                wanted = math.comb(copies, writes) * math.comb(copies - writes, reads) * 2 ** (copies - writes - reads)
            self.assertEqual(len(missed(copies, reads, writes)), wanted)


class Rows(unittest.TestCase):
    def test_as_written(self):
        self.assertEqual(rows_of(1, 1, 1, (1, 0, 1)), [
            "come a.a.a 0", "thing 0 1 1 1", "write x 0 v", "bring 1", "bring 2", "read y 0", "bring 3", "bring 4"])

    def test_as_written_with_late_ones(self):
        """Had are the homes 0 and 3, late 1 and 4, heard 2, 3 and 4."""
        self.assertEqual(rows_of(5, 3, 2, (9, 18, 28)), [
            "come a.a.a 0", "come b.a.a 1", "come c.a.a 2", "come d.a.a 3", "come e.a.a 4",
            "thing 0 5 3 2", "write x 0 v", "bring 1", "bring 4", "bring 6", "bring 7",
            "read y 0", "bring 2", "bring 5", "bring 10", "bring 11", "bring 12", "bring 15", "bring 16", "bring 17"])

    def test_the_letters_that_are_brought(self):
        """At a new desk each row brings just the letter that it is to bring."""
        for counts in COUNTS:
            for weaving in weavings(*counts)[::7]:
                self.brought(counts, weaving)

    def brought(self, counts, weaving):
        had, late, heard = [[f"{'abcde'[home]}.a.a" for home in homes_of(bits)] for bits in weaving]
        desk = Desk()
        letters = []
        for row in rows_of(*counts, weaving):
            if row.startswith("bring "):
                number = row.split(" ")[1]
                (letter,) = [shown for shown in desk.say("letters").split(" ") if shown.split(":")[0] == number]
                letters.append(tuple(letter.split(":")[1:4]))
            desk.say(row)
        wanted = [("put", "1", house) for house in had] + [("ack", "1", house) for house in had]
        wanted += [("put", "1", house) for house in late]
        wanted += [("query", "2", house) for house in heard] + [("told", "2", house) for house in heard]
        self.assertEqual(letters, wanted)

    def test_told_to_a_new_desk(self):
        """No row is refused, both asks are done, and the read has missed the write just where the weaving misses."""
        for counts in COUNTS:
            for weaving in weavings(*counts):
                desk = Desk()
                answers = [desk.say(row) for row in rows_of(*counts, weaving)]
                self.assertEqual([answer for answer in answers if answer != "ok"], ["1", "2"])
                self.assertEqual(desk.say("ask 1"), "done x.1=v")
                self.assertEqual(desk.say("ask 2"), "done" if misses(weaving) else "done x.1=v")
                self.assertEqual(desk.say("missed 2"), "x.1" if misses(weaving) else "")

    def test_who_has_the_write_when_it_is_done_and_behind_it(self):
        for counts in COUNTS:
            for weaving in weavings(*counts)[::5]:
                desk = Desk()
                for row in rows_of(*counts, weaving):
                    if row == "read y 0":
                        self.assertEqual(self.having(desk, counts[0]), homes_of(weaving[0]))
                        self.assertEqual(desk.say("ask 1"), "done x.1=v")
                    desk.say(row)
                self.assertEqual(self.having(desk, counts[0]), homes_of(weaving[0] | weaving[1]))

    def having(self, desk, copies):
        return [home for home in range(copies) if desk.say(f"shelf {'abcde'[home]}.a.a 0") == "x.1=v"]


if __name__ == "__main__":
    unittest.main()
