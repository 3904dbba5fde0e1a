"""A desk: it is told rows, does in its realm what they say, and answers each with a text."""

from threeroofs.knowing import standing
from threeroofs.loads import bounds, firsts
from threeroofs.realm import Realm
from threeroofs.rows import read_row
from threeroofs.scant import scant
from threeroofs.town import shares_of

OK = "ok"


def or_dash(thing):
    return "-" if thing is None else str(thing)


def parted(texts):
    return " ".join(texts)


def with_colons(things):
    return ":".join([or_dash(thing) for thing in things])


def shown_move(moved):
    ends = or_dash(moved[1]) + ">" + or_dash(moved[2])
    return with_colons([moved[0], ends, moved[3], moved[4]])


def shown_moves(told):
    return parted([shown_move(moved) for moved in told]) if len(told) > 0 else OK


def shown_writes(state):
    return [f"{asker}.{count}={value}" for asker, count, value in standing(state)]


# Each of these answers one row: words are the row's words, numbers in the place of those that are some.


def say_come(realm, words):
    return shown_moves(realm.come(words[1], words[2:]))


def say_go(realm, words):
    return shown_moves(realm.go(words[1]))


def say_weigh(realm, words):
    return shown_moves(realm.weigh(words[1], words[2:]))


def say_thing(realm, words):
    realm.declare(words[1], words[2], words[3], words[4])
    return OK


def say_homes(realm, words):
    return parted(realm.homes(words[1]))


def say_write(realm, words):
    return str(realm.write(words[1], words[2], words[3]))


def say_read(realm, words):
    return str(realm.read(words[1], words[2]))


def say_ask(realm, words):
    return parted([realm.status(words[1])] + shown_writes(realm.found(words[1])))


def say_missed(realm, words):
    return parted([f"{asker}.{count}" for asker, count in realm.missed(words[1])])


def say_bring(realm, words):
    realm.bring(words[1])
    return OK


def say_lose(realm, words):
    realm.lose(words[1])
    return OK


def say_twice(realm, words):
    realm.twice(words[1])
    return OK


def say_fall(realm, words):
    realm.fall(words[1])
    return OK


def say_rise(realm, words):
    realm.rise(words[1])
    return OK


def say_letters(realm, words):
    return parted([with_colons(letter) for letter in realm.letters()])


def say_away(realm, words):
    return parted(realm.away())


def say_hints(realm, words):
    return parted([f"{keeper}>{house}:{key}" for keeper, house, key, state in realm.hints()])


def say_shelf(realm, words):
    return parted(shown_writes(realm.shelf(words[1], words[2])))


def say_known(realm, words):
    return parted(shown_writes(realm.known(words[1], words[2])))


def say_meet(realm, words):
    found = realm.meet(words[1], words[2])
    return parted([str(key) for key in found[0]] + ["/", str(len(found[1]))])


def say_mend(realm, words):
    return str(sum([meeting[3] for meeting in realm.mend()]))


def say_share(realm, words):
    realm.need_house(words[1])
    part = shares_of(realm.houses())[words[1]]
    return str(part[0]) + "/" + str(part[1])


def say_firsts(realm, words):
    realm.need_house(words[1])
    bound = bounds(realm.houses())[words[1]]
    return parted([str(number) for number in (firsts(realm.houses())[words[1]],) + bound])


def say_scant(realm, words):
    things = [(key, realm.counts_of(key)[0]) for key in realm.things()]
    return parted([with_colons(suffering) for suffering in scant(realm.houses(), things)])


ANSWERS = {
    "come": say_come,
    "go": say_go,
    "weigh": say_weigh,
    "thing": say_thing,
    "homes": say_homes,
    "write": say_write,
    "read": say_read,
    "ask": say_ask,
    "missed": say_missed,
    "bring": say_bring,
    "lose": say_lose,
    "twice": say_twice,
    "fall": say_fall,
    "rise": say_rise,
    "letters": say_letters,
    "away": say_away,
    "hints": say_hints,
    "shelf": say_shelf,
    "known": say_known,
    "meet": say_meet,
    "mend": say_mend,
    "share": say_share,
    "firsts": say_firsts,
    "scant": say_scant,
}


class Desk:
    def __init__(self):
        self.realm = Realm()

    def say(self, row):
        words = read_row(row)
        return ANSWERS[words[0]](self.realm, words)
