"""What is a whole number, a word, a house's name, a value, a key or a plot; a house's roof and room."""

WORD_SIGNS = "abcdefghijklmnopqrstuvwxyz0123456789"
WORD_LENGTH = 8
VALUE_LENGTH = 40
KEYS = 256
PLOTS = 11


def is_whole(thing):
    # Python counts True and False among the whole numbers; the document does not.
    return isinstance(thing, int) and not isinstance(thing, bool)


def is_text_up_to(thing, length):
    return isinstance(thing, str) and 1 <= len(thing) <= length


def is_word(thing):
    # Python's own isalnum and islower also take letters and figures that are not ASCII.
    return is_text_up_to(thing, WORD_LENGTH) and all([sign in WORD_SIGNS for sign in thing])


def is_house(thing):
    if not isinstance(thing, str):
        return False
    words = thing.split(".")
    return len(words) == 3 and all([is_word(word) for word in words])


def is_value(thing):
    return is_text_up_to(thing, VALUE_LENGTH) and all(["!" <= sign <= "~" for sign in thing])


def is_key(thing):
    return is_whole(thing) and 0 <= thing < KEYS


def is_plot(thing):
    return is_whole(thing) and 0 <= thing < PLOTS


def roof_of(house):
    return house.partition(".")[0]


def room_of(house):
    # The roof stays in it: rooms of one name under two roofs are two rooms.
    return house.rpartition(".")[0]
