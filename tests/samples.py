"""Dicts of houses that several tests go through, and what the tests reckon on their own."""

import itertools

# Under one roof and several, in one room and several; words that begin one another; rooms of one name under two roofs.
NAMES = [
    "a.a.a", "a.a.aa", "a.aa.a", "aa.a.a", "aa.a.b", "aa.aa.a", "b.a.a", "b.1.a", "1.a.a", "1.1.a", "1.1.11", "11.1.1",
    "a.a.b", "a.b.a", "north.2.a",
]


def words_of(name):
    return name.split(".")


def turned(houses):
    """The same dict with its entries the other way round."""
    return dict(reversed(list(houses.items())))


def rows_of_houses(names, most):
    """Each choice of up to so many of the names, in each order: drawer 0 sets them in just that order."""
    for many in range(most + 1):
        for row in itertools.permutations(names, many):
            yield {name: (plot,) for plot, name in enumerate(row)}


def all_houses(names, plots):
    """Each way in which each of the plots is one house's or nobody's."""
    for owners in itertools.product([None] + names, repeat=len(plots)):
        houses = {}
        for plot, owner in zip(plots, owners):
            if owner is not None:
                houses[owner] = houses.get(owner, ()) + (plot,)
        yield houses


def some_houses(chooser, held=None):
    """A dict of houses that hold so many plots together, or any number of them, tuples rising."""
    if held is None:
        held = chooser.randrange(12)
    names = chooser.sample(NAMES, chooser.randint(1, 11))
    houses = {}
    for plot in sorted(chooser.sample(range(11), held)):
        name = chooser.choice(names)
        houses[name] = houses.get(name, ()) + (plot,)
    return houses


def pairs_of(names):
    """The crowd, pair by pair."""
    pairs = [(words_of(one), words_of(other)) for one, other in itertools.combinations(names, 2)]
    return (len([1 for one, other in pairs if one[0] == other[0]]),
            len([1 for one, other in pairs if one[:2] == other[:2]]))


# Each under a roof of its own; in drawer 0, so for the keys 0, 110 and 220, they stand in the order of their names.
FIVE = {"a.1.a": (0,), "b.1.a": (1,), "c.1.a": (2,), "d.1.a": (3,), "e.1.a": (4,)}
A, B, C, D, E = sorted(FIVE)

# What Python takes as equal to a key, or can't ask a dict for, is among them.
NO_KEYS = [-1, 256, 1000, 10 ** 30, True, False, None, "", "0", "x", A, 0.0, 1.0, [], [0], (), (0,), {}, {0: 0}, {0},
           b"0"]
NO_HOUSES = ["", "a", "a.1", "a.1.", ".1.a", "a.1.a.a", "A.1.a", "a.1.a ", "a. 1.a", "a.1.abcdefghi", None, 0, 1, True,
             1.5, [], [A], (), (A,), {}, {A: (0,)}, {A}, b"a.1.a"]
NO_NUMBERS = [0, -1, 10 ** 30, True, False, None, "", "1", 1.0, [], [1], (), (1,), {}, {1: 1}, {1}, b"1"]
NO_WORDS = ["", "X", "x ", " x", "x.y", "x-y", "abcdefghi", A, None, 0, 1, True, 1.5, [], ["x"], (), ("x",), {},
            {"x": 1}, {"x"}, b"x"]
NO_VALUES = ["", " ", "a b", "v" * 41, "\n", "v\n", "\t", None, 0, 1, True, 1.5, [], ["v"], (), ("v",), {}, {"v": 1},
             {"v"}, b"v"]

# A row of each sort, as it is read.
LISTED_ROWS = {
    "come a.1.a": ["come", "a.1.a"],
    "come a.1.a 4": ["come", "a.1.a", 4],
    "come a.1.a 4 0 10": ["come", "a.1.a", 4, 0, 10],
    "go a.1.a": ["go", "a.1.a"],
    "weigh a.1.a": ["weigh", "a.1.a"],
    "weigh a.1.a 4 0 10": ["weigh", "a.1.a", 4, 0, 10],
    "thing 7 3 2 1": ["thing", 7, 3, 2, 1],
    "homes 7": ["homes", 7],
    "write x 7 v": ["write", "x", 7, "v"],
    "read x 7": ["read", "x", 7],
    "ask 1": ["ask", 1],
    "missed 1": ["missed", 1],
    "bring 1": ["bring", 1],
    "lose 1": ["lose", 1],
    "twice 1": ["twice", 1],
    "fall a.1.a": ["fall", "a.1.a"],
    "rise a.1.a": ["rise", "a.1.a"],
    "letters": ["letters"],
    "away": ["away"],
    "hints": ["hints"],
    "shelf a.1.a 7": ["shelf", "a.1.a", 7],
    "known x 7": ["known", "x", 7],
    "meet a.1.a b.1.a": ["meet", "a.1.a", "b.1.a"],
    "mend": ["mend"],
    "share a.1.a": ["share", "a.1.a"],
    "firsts a.1.a": ["firsts", "a.1.a"],
    "scant": ["scant"],
}
NO_NUMBER_WORDS = ["", "00", "01", "007", "1234567890", "1000000000", "0000000000", "-1", "+1", "-0", "1.0", "1e3",
                   "1_0", "a", "1a", "a1", "x", "1,0", "0x1", "\n", "1\n", "\n1", "1\t", "\t", "-", "--", "v",
                   "a.1.a"]
NO_TEXTS = [None, 0, 1, True, False, 1.5, [], ["mend"], (), ("mend",), {}, {"mend": 1}, {"mend"}, b"mend"]


def refused(case, refusal, field, handed, deed, *arguments):
    """The deed is refused with that very class, and the refusal's field is what was handed in."""
    with case.assertRaises(refusal) as taken:
        deed(*arguments)
    case.assertIs(taken.exception.__class__, refusal)
    told = getattr(taken.exception, field)
    case.assertIs(told.__class__, handed.__class__)
    case.assertEqual(told, handed)
