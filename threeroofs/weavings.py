"""Weavings of a write and a read: which homes have the write, get it late, and answer the read."""

from threeroofs.counts import need_counts

# The roof of the home k is the k-th of these.
ROOFS = "abcde"


def bit_of(home):
    bit = 1
    for step in range(home):
        bit = 2 * bit
    return bit


def homes_in(bits, copies):
    return [home for home in range(copies) if (bits & bit_of(home)) != 0]


def sets_of(copies, many):
    return [bits for bits in range(bit_of(copies)) if len(homes_in(bits, copies)) == many]


def weavings(copies, reads, writes):
    need_counts(copies, reads, writes)
    told = []
    for had in sets_of(copies, writes):
        for late in range(bit_of(copies)):
            if (had & late) == 0:
                told.extend([(had, late, heard) for heard in sets_of(copies, reads)])
    return told


def misses(weaving):
    return (weaving[2] & (weaving[0] | weaving[1])) == 0


def missed(copies, reads, writes):
    return [weaving for weaving in weavings(copies, reads, writes) if misses(weaving)]


def bring_rows(numbers):
    return [f"bring {number}" for number in numbers]


def come_rows(copies):
    return ["come " + ROOFS[home] + ".a.a " + str(home) for home in range(copies)]


# Behind so many letters sent, these are the numbers of the letters to some homes, where each home is sent one.
def numbers_to(homes, sent):
    return [sent + 1 + home for home in homes]


# Behind so many letters sent, these are the numbers of the answers of some homes, which come one by one.
def numbers_from(homes, sent):
    return list(range(sent + 1, sent + 1 + len(homes)))


def rows_of(copies, reads, writes, weaving):
    need_counts(copies, reads, writes)
    had = homes_in(weaving[0], copies)
    late = homes_in(weaving[1], copies)
    heard = homes_in(weaving[2], copies)
    asked_at = copies + len(had)
    told_at = asked_at + copies + len(late)
    rows = come_rows(copies) + [f"thing 0 {copies} {reads} {writes}", "write x 0 v"]
    rows = rows + bring_rows(numbers_to(had, 0)) + bring_rows(numbers_from(had, copies)) + ["read y 0"]
    rows = rows + bring_rows(numbers_to(late, 0)) + bring_rows(numbers_to(heard, asked_at))
    return rows + bring_rows(numbers_from(heard, told_at))
