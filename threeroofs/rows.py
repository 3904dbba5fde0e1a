"""Rows: the texts that a desk is told, and the words and numbers in them."""

from threeroofs.errors import NoRow

FIGURES = "0123456789"
MOST_FIGURES = 9

# What stands behind a row's first word: w is any word, n a number.
SHAPES = {
    "come": "w",
    "go": "w",
    "weigh": "w",
    "thing": "nnnn",
    "homes": "n",
    "write": "wnw",
    "read": "wn",
    "ask": "n",
    "missed": "n",
    "bring": "n",
    "lose": "n",
    "twice": "n",
    "fall": "w",
    "rise": "w",
    "letters": "",
    "away": "",
    "hints": "",
    "shelf": "wn",
    "known": "wn",
    "meet": "ww",
    "mend": "",
    "share": "w",
    "firsts": "w",
    "scant": "",
}
# Behind their shapes stand plots, none or more.
WITH_PLOTS = ("come", "weigh")


def is_number(word):
    # Python's own isdigit also takes figures that are not ASCII.
    if not (1 <= len(word) <= MOST_FIGURES and all([sign in FIGURES for sign in word])):
        return False
    return word == "0" or word[0] != "0"


def shape_of(words):
    shape = SHAPES[words[0]]
    plots = len(words) - 1 - len(shape) if words[0] in WITH_PLOTS else 0
    return shape + "n" * plots


def is_row(words):
    if words[0] not in SHAPES:
        return False
    shape = shape_of(words)
    if len(words) != 1 + len(shape):
        return False
    return all([sign == "w" or is_number(word) for sign, word in zip(shape, words[1:])])


def read_row(row):
    if not isinstance(row, str):
        raise NoRow(row)
    words = row.split(" ")
    if not is_row(words):
        raise NoRow(row)
    return words[:1] + [int(word) if sign == "n" else word for sign, word in zip(shape_of(words), words[1:])]
