"""The desk: points 80 and 81, and what the interface lists."""

import random
import unittest

from threeroofs.desk import Desk
from threeroofs.errors import (Away, LastHouse, NoAsk, NoAsker, NoCounts, NoHouse, NoLetter, NoPlots, NoRow, NoThing,
                               NoValue, OldHouse, OldThing, PlotTaken)
from threeroofs.knowing import standing
from threeroofs.loads import bounds, firsts
from threeroofs.realm import Realm
from threeroofs.scant import scant
from threeroofs.town import shares_of

from drawn import ASKERS, KEYS
from plain import told_of
from samples import A, B, C, D, E, FIVE, LISTED_ROWS, NAMES, NO_NUMBER_WORDS, NO_TEXTS, refused


class DeskCase(unittest.TestCase):
    def setUp(self):
        self.desk = Desk()

    def said(self, *pairs):
        """Rows and what each is answered with, one behind the other."""
        for row, answer in pairs:
            with self.subTest(row=row):
                self.assertEqual(self.desk.say(row), answer)

    def tell(self, *rows):
        for row in rows:
            self.desk.say(row)

    def five(self, *things):
        for house, plots in FIVE.items():
            self.desk.say(f"come {house} {plots[0]}")
        self.tell(*things)

    def told(self):
        """All that a desk tells by rows that change nothing."""
        rows = ["letters", "away", "hints", "scant"]
        rows += [f"homes {key}" for key in (0, 1, 7, 110)] + [f"ask {number}" for number in range(1, 6)]
        rows += [f"missed {number}" for number in range(1, 6)] + [f"known x {key}" for key in (0, 7)]
        rows += [f"shelf {house} 0" for house in FIVE] + [f"share {house}" for house in FIVE]
        answers = []
        for row in rows:
            try:
                answers.append(self.desk.say(row))
            except ValueError as refusal:
                answers.append(refusal.__class__)
        return answers


class Houses(DeskCase):
    def test_come(self):
        self.said((f"come {A} 3 0", "ok"), ("thing 0 2 1 1", "ok"), ("thing 7 1 1 1", "ok"),
                  (f"come {B} 1", f"0:->{B}:came:{B}"), ("homes 0", f"{A} {B}"))

    def test_moves_parted_by_blanks(self):
        self.five("thing 110 3 1 1", "thing 0 2 1 1", "thing 220 5 1 1")
        self.said((f"go {A}", f"0:{A}>{C}:went:{A} 110:{A}>{D}:went:{A} 220:{A}>-:went:{A}"),
                  (f"weigh {B} 9", f"0:{B}>{D}:weighs:{B} 110:{B}>{E}:weighs:{B}"),
                  (f"weigh {B} 9 8", "ok"),
                  (f"come {A} 0 7", f"0:{D}>{A}:came:{A} 110:{E}>{A}:came:{A} 220:->{A}:came:{A}"))

    def test_what_is_refused_of_a_house_that_comes(self):
        self.five()
        before = self.told()
        for name in ("", "a", "a.1", "A.1.a", "a.1.a\n", "-", "0"):
            refused(self, NoHouse, "house", name, self.desk.say, f"come {name} 9")
            refused(self, NoHouse, "house", name, self.desk.say, f"come {name}")
        refused(self, OldHouse, "house", A, self.desk.say, f"come {A} 9")
        refused(self, OldHouse, "house", A, self.desk.say, f"come {A}")
        for plots in ("", " 11", " 9 9", " 999999999", " 0 11"):
            with self.assertRaises(NoPlots):
                self.desk.say("come f.1.a" + plots)
        refused(self, PlotTaken, "plot", 1, self.desk.say, "come f.1.a 9 4 1")
        refused(self, PlotTaken, "house", B, self.desk.say, "come f.1.a 9 4 1")
        self.assertEqual(self.told(), before)

    def test_what_is_refused_of_one_that_goes_or_is_weighed(self):
        self.five()
        before = self.told()
        for name in ("", "a", "f.1.a", "A.1.a", "a.1.a\n"):
            refused(self, NoHouse, "house", name, self.desk.say, f"go {name}")
            refused(self, NoHouse, "house", name, self.desk.say, f"weigh {name}")
        for plots in ("", " 11", " 9 9", " 0 0"):
            with self.assertRaises(NoPlots):
                self.desk.say(f"weigh {A}{plots}")
        refused(self, PlotTaken, "plot", 2, self.desk.say, f"weigh {A} 9 4 2")
        refused(self, PlotTaken, "house", C, self.desk.say, f"weigh {A} 9 4 2")
        self.assertEqual(self.told(), before)

    def test_the_last_one(self):
        self.tell(f"come {A} 9")
        refused(self, LastHouse, "house", A, self.desk.say, f"go {A}")
        refused(self, NoHouse, "house", B, self.desk.say, f"go {B}")
        self.said((f"share {A}", "1/1"))

    def test_away(self):
        self.five()
        self.said(("away", ""), (f"fall {D}", "ok"), (f"fall {B}", "ok"), (f"fall {B}", "ok"), ("away", f"{B} {D}"))
        for row in ("come f.1.a 9", f"come {A}", "come x", f"go {A}", "go x", f"weigh {A} 0", f"weigh {A}", "mend"):
            refused(self, Away, "house", B, self.desk.say, row)
        self.said((f"rise {B}", "ok"), (f"rise {B}", "ok"), ("away", D), (f"rise {D}", "ok"), ("away", ""))
        for name in ("", "x", "f.1.a"):
            refused(self, NoHouse, "house", name, self.desk.say, f"fall {name}")
            refused(self, NoHouse, "house", name, self.desk.say, f"rise {name}")

    def test_share_and_firsts(self):
        self.tell(f"come {A} 0 5 7", f"come {B} 2", f"come {C} 10 4")
        houses = {A: (0, 5, 7), B: (2,), C: (4, 10)}
        self.said((f"share {A}", "1/2"), (f"share {B}", "1/6"), (f"share {C}", "1/3"))
        for house in houses:
            wanted = (firsts(houses)[house],) + bounds(houses)[house]
            self.said((f"firsts {house}", " ".join(str(number) for number in wanted)))

    def test_firsts_as_written(self):
        self.tell("come a.1.a 0", "come a.1.b 1", "come b.1.a 2 3")
        self.said(("firsts a.1.a", "30 22 44"), ("firsts a.1.b", "25 22 44"), ("firsts b.1.a", "55 44 66"),
                  ("share b.1.a", "1/2"))

    def test_one_house_has_all(self):
        self.tell(f"come {A} 4 6")
        self.said((f"share {A}", "1/1"), (f"firsts {A}", "110 110 110"))

    def test_share_and_firsts_of_none(self):
        for name in ("", "x", B, "a.1.a\n"):
            refused(self, NoHouse, "house", name, self.desk.say, f"share {name}")
            refused(self, NoHouse, "house", name, self.desk.say, f"firsts {name}")
        self.tell(f"come {A} 4")
        for name in ("", "x", B, "a.1.a\n"):
            refused(self, NoHouse, "house", name, self.desk.say, f"share {name}")
            refused(self, NoHouse, "house", name, self.desk.say, f"firsts {name}")


class Things(DeskCase):
    def test_thing_and_homes(self):
        self.said(("thing 0 2 1 2", "ok"), ("homes 0", ""))
        self.five("thing 255 1 1 1")
        self.said(("homes 0", f"{A} {B}"), ("homes 255", " ".join(self.desk.realm.homes(255))))

    def test_what_is_refused(self):
        self.five("thing 0 3 2 2")
        before = self.told()
        refused(self, NoThing, "thing", 256, self.desk.say, "thing 256 0 0 0")
        refused(self, NoThing, "thing", 999999999, self.desk.say, "thing 999999999 1 1 1")
        refused(self, OldThing, "thing", 0, self.desk.say, "thing 0 0 0 0")
        for counts in ("0 0 0", "6 1 1", "3 0 1", "3 1 0", "3 4 1", "3 1 4"):
            with self.assertRaises(NoCounts):
                self.desk.say(f"thing 7 {counts}")
        for key in (1, 7, 255, 256, 110):
            refused(self, NoThing, "thing", key, self.desk.say, f"homes {key}")
        self.assertEqual(self.told(), before)

    def test_scant(self):
        self.said(("scant", ""), ("thing 7 2 1 1", "ok"), ("scant", "7:2:0:0"))
        self.five("thing 0 3 1 1")
        self.said(("scant", ""), (f"go {A}", self.moves_of_go()), ("thing 110 5 1 1", "ok"), ("scant", "110:1:0:0"))
        self.tell("come b.1.b 9", "come b.2.a 10")
        self.said(("scant", "110:0:1:0"), ("thing 9 4 1 1", "ok"), ("scant", "110:0:1:0"))

    def moves_of_go(self):
        realm = Realm()
        realm.declare(7, 2, 1, 1)
        for house, plots in FIVE.items():
            realm.come(house, list(plots))
        realm.declare(0, 3, 1, 1)
        return " ".join(f"{key}:{loser}>{gainer}:{word}:{house}" for key, loser, gainer, word, house in realm.go(A))

    def test_scant_by_keys(self):
        self.tell("come a.1.a 0", "come a.1.b 1", "come a.2.a 2", "thing 9 3 1 1", "thing 110 5 1 1", "thing 0 2 1 1",
                  "thing 99 1 1 1")
        things = [(0, 2), (9, 3), (99, 1), (110, 5)]
        told = scant(self.desk.realm.houses(), things)
        self.assertEqual(told, [(0, 0, 1, 0), (9, 0, 3, 1), (110, 2, 3, 1)])
        self.said(("scant", "0:0:1:0 9:0:3:1 110:2:3:1"))


class Asks(DeskCase):
    def test_a_write_and_a_read(self):
        self.five("thing 0 3 2 2")
        self.said(("letters", ""), ("write x 0 v", "1"),
                  ("letters", f"1:put:1:{A}:0 2:put:1:{B}:0 3:put:1:{C}:0"), ("ask 1", "open x.1=v"), ("missed 1", ""),
                  (f"shelf {A} 0", ""), ("bring 1", "ok"), (f"shelf {A} 0", "x.1=v"), ("bring 2", "ok"),
                  ("letters", f"3:put:1:{C}:0 4:ack:1:{A}:0 5:ack:1:{B}:0"), ("bring 4", "ok"), ("bring 5", "ok"),
                  ("ask 1", "done x.1=v"), ("read y 0", "2"), ("ask 2", "open"), ("missed 2", "x.1"),
                  ("bring 7", "ok"), ("bring 8", "ok"),
                  ("letters", f"3:put:1:{C}:0 6:query:2:{A}:0 9:told:2:{B}:0 10:told:2:{C}:0"),
                  ("bring 10", "ok"), ("ask 2", "open"), ("known y 0", ""), ("bring 9", "ok"), ("ask 2", "done x.1=v"),
                  ("missed 2", ""), ("known y 0", "x.1=v"), ("write y 0 w", "3"), ("ask 3", "open y.1=w"),
                  ("known y 0", "y.1=w"), ("known x 0", "x.1=v"), ("known z 0", ""))

    def test_writes_that_stand_side_by_side(self):
        self.five("thing 0 1 1 1")
        self.tell("write y 0 w", "write x 0 a=b", "write x1 0 u", "bring 1", "bring 2", "bring 3", "write x 0 a.b:c>-",
                  "bring 7")
        self.said((f"shelf {A} 0", "x.2=a.b:c>- x1.1=u y.1=w"), ("read z 0", "5"), ("bring 9", "ok"),
                  ("bring 10", "ok"), ("ask 5", "done x.2=a.b:c>- x1.1=u y.1=w"), ("known z 0", "x.2=a.b:c>- x1.1=u y.1=w"))

    def test_several_missed(self):
        self.five("thing 0 3 1 1")
        self.tell("write y 0 w", "write x 0 v", "bring 1", "bring 4", "bring 7", "bring 8", "write y 0 u", "bring 9",
                  "bring 12", "read z 0")
        self.said(("missed 4", "y.1 x.1 y.2"), ("ask 4", "open"))

    def test_a_broken_ask(self):
        self.five("thing 0 2 2 2")
        self.tell("write x 0 v", "read y 0", "bring 1", "bring 3", "bring 6", f"go {A}")
        self.said(("ask 1", "broken x.1=v"), ("ask 2", "broken x.1=v"), ("missed 2", ""))

    def test_lose_and_twice(self):
        self.five("thing 0 1 1 1")
        self.said(("write x 0 v", "1"), ("twice 1", "ok"), ("lose 1", "ok"), ("letters", f"2:put:1:{A}:0"),
                  ("bring 2", "ok"), ("letters", f"3:ack:1:{A}:0"), ("lose 3", "ok"), ("letters", ""))

    def test_hints(self):
        self.five("thing 0 2 1 1", "thing 110 1 1 1")
        self.said(("hints", ""), (f"fall {A}", "ok"), (f"fall {B}", "ok"), ("write x 0 v", "1"), ("write x 110 v", "2"),
                  ("bring 1", "ok"), ("bring 2", "ok"), ("bring 3", "ok"),
                  ("hints", f"{C}>{A}:0 {C}>{A}:110 {C}>{B}:0"),
                  (f"rise {A}", "ok"), ("hints", f"{C}>{B}:0"), ("letters", f"4:hint:-:{A}:0 5:hint:-:{A}:110"))

    def test_what_is_refused_of_asks(self):
        self.five("thing 0 3 2 2")
        before = self.told()
        for asker in ("", "X", "abcdefghi", "x.y", "x\n"):
            for key in (0, 5, 256):
                refused(self, NoAsker, "asker", asker, self.desk.say, f"write {asker} {key} ")
                refused(self, NoAsker, "asker", asker, self.desk.say, f"read {asker} {key}")
                refused(self, NoAsker, "asker", asker, self.desk.say, f"known {asker} {key}")
        for key in (1, 256, 999999999):
            refused(self, NoThing, "thing", key, self.desk.say, f"write x {key} ")
            refused(self, NoThing, "thing", key, self.desk.say, f"read x {key}")
            refused(self, NoThing, "thing", key, self.desk.say, f"known x {key}")
            refused(self, NoThing, "thing", key, self.desk.say, f"shelf {A} {key}")
            refused(self, NoHouse, "house", "f.1.a", self.desk.say, f"shelf f.1.a {key}")
        for value in ("", "v" * 41, "v\n", "\t"):
            with self.assertRaises(NoValue):
                self.desk.say(f"write x 0 {value}")
        for number in (0, 1, 999999999):
            for word in ("bring", "lose", "twice"):
                refused(self, NoLetter, "letter", number, self.desk.say, f"{word} {number}")
            for word in ("ask", "missed"):
                refused(self, NoAsk, "ask", number, self.desk.say, f"{word} {number}")
        self.assertEqual(self.told(), before)


class Meetings(DeskCase):
    def setUp(self):
        """Of the things 0 and 110 A knows a write, of 220 A and B do; all other homes know nothing."""
        DeskCase.setUp(self)
        self.five("thing 0 3 1 1", "thing 110 2 1 1", "thing 220 2 1 1", "thing 9 5 1 1")
        self.tell("write x 0 v", "write x 110 v", "write x 220 v", "bring 1", "bring 4", "bring 6", "bring 7")

    def test_meet(self):
        nodes = len(self.copy_met())
        self.assertGreater(nodes, 17)
        self.said((f"meet {A} {B}", f"0 110 / {nodes}"), (f"meet {B} {A}", "/ 1"), (f"meet {A} {A}", "/ 1"),
                  (f"meet {A} {E}", "/ 1"), (f"shelf {B} 0", "x.1=v"), (f"meet {C} {B}", "0 / 17"))

    def copy_met(self):
        """What a realm tells to which the same was done."""
        realm = Realm()
        for house, plots in FIVE.items():
            realm.come(house, list(plots))
        for key, copies in ((0, 3), (110, 2), (220, 2), (9, 5)):
            realm.declare(key, copies, 1, 1)
        for key in (0, 110, 220):
            realm.write("x", key, "v")
        for number in (1, 4, 6, 7):
            realm.bring(number)
        return realm.meet(A, B)[1]

    def test_mend(self):
        nodes = len(self.copy_met())
        self.said(("mend", str(nodes + 17 + 8)), ("mend", "10"), (f"shelf {C} 0", "x.1=v"))

    def test_mend_with_few_houses(self):
        desk = Desk()
        self.assertEqual(desk.say("mend"), "0")
        desk.say(f"come {A} 1")
        self.assertEqual(desk.say("mend"), "0")
        desk.say(f"come {B} 2")
        self.assertEqual(desk.say("mend"), "1")

    def test_what_is_refused(self):
        self.tell(f"fall {A}")
        refused(self, NoHouse, "house", "x", self.desk.say, f"meet x {A}")
        refused(self, NoHouse, "house", "", self.desk.say, f"meet {A} ")
        refused(self, NoHouse, "house", "x", self.desk.say, "meet x y")
        refused(self, Away, "house", A, self.desk.say, f"meet {A} {B}")
        refused(self, Away, "house", A, self.desk.say, f"meet {B} {A}")
        refused(self, Away, "house", A, self.desk.say, "mend")
        self.said((f"meet {C} {B}", "/ 1"))


class RefusedRows(DeskCase):
    def test_no_row(self):
        self.five("thing 0 3 2 2")
        self.tell("write x 0 v", "bring 1")
        before = self.told()
        for row in NO_TEXTS + ["", " ", "  ", "say", "Mend", " mend", "mend ", "letters 1", "homes", "homes 0 1",
                               "thing 0 1 1", "come", "go", "meet a.1.a", "write x 0 v w", "write x 0", "read x",
                               "bring", "bring 2 3", "scant x"]:
            refused(self, NoRow, "row", row, self.desk.say, row)
        for word in NO_NUMBER_WORDS:
            for row in (f"bring {word}", f"lose {word}", f"homes {word}", f"come f.1.a {word}", f"thing 7 {word} 1 1",
                        f"read x {word}"):
                refused(self, NoRow, "row", row, self.desk.say, row)
        self.assertEqual(self.told(), before)

    def test_no_row_ahead_of_all_else(self):
        self.five()
        self.tell(f"fall {A}")
        for row in ("come x y", "come X 01", f"go {A} {B}", "weigh x -1", "mend now", "write X 01 ", "shelf x x",
                    "thing 256 01 9 9"):
            refused(self, NoRow, "row", row, self.desk.say, row)

    def test_each_listed_row_is_known(self):
        for row in LISTED_ROWS:
            desk = Desk()
            try:
                answer = desk.say(row)
            except ValueError as refusal:
                self.assertNotIsInstance(refusal, NoRow)
            else:
                self.assertIs(answer.__class__, str)


class OfItsOwn(DeskCase):
    def test_a_new_desk(self):
        self.said(("letters", ""), ("away", ""), ("hints", ""), ("scant", ""), ("mend", "0"))
        for row, refusal in (("homes 0", NoThing), (f"go {A}", NoHouse), ("ask 1", NoAsk), ("bring 1", NoLetter),
                             (f"share {A}", NoHouse)):
            with self.assertRaises(refusal):
                self.desk.say(row)

    def test_two_desks(self):
        self.five("thing 0 3 2 2", "write x 0 v", f"fall {A}")
        other = Desk()
        self.assertEqual([other.say(row) for row in ("letters", "away", "mend", f"come {A} 0", "thing 0 1 1 1",
                                                     "write x 0 w", "ask 1")],
                         ["", "", "0", "ok", "ok", "1", "open x.1=w"])
        self.said(("away", A), ("ask 1", "open x.1=v"))


class AgainstARealm(unittest.TestCase):
    """Drawn rows: the desk answers what a realm tells to which the same was done, and refuses what it refuses."""

    def row_of(self, chooser, realm):
        houses = sorted(realm.houses()) + chooser.sample(NAMES, 2)
        letters = [letter[0] for letter in realm.letters()] + [0]
        house = chooser.choice(houses)
        asker = chooser.choice(ASKERS)
        key = chooser.choice(KEYS)
        plots = " ".join(str(chooser.randrange(12)) for number in range(chooser.randrange(1, 3)))
        copies = chooser.randint(1, 5)
        counts = f"{copies} {chooser.randint(1, copies)} {chooser.randint(1, copies)}"
        rows = [f"come {house} {plots}"] * 3 + [f"thing {key} {counts}"] * 2 + [f"go {house}", f"weigh {house} {plots}"]
        rows += [f"homes {key}", f"write {asker} {key} v{chooser.randrange(3)}", f"read {asker} {key}"] * 2
        rows += [f"bring {chooser.choice(letters)}"] * 16
        rows += [f"lose {chooser.choice(letters)}", f"twice {chooser.choice(letters)}", f"fall {house}"]
        rows += [f"ask {chooser.randrange(9)}", f"missed {chooser.randrange(9)}"] + [f"rise {house}"] * 2
        rows += ["letters", "away", "hints", f"shelf {house} {key}", f"known {asker} {key}",
                 f"meet {house} {chooser.choice(houses)}"]
        return chooser.choice(rows + ["mend", f"share {house}", f"firsts {house}", "scant"])

    def wanted(self, realm, row):
        """The answer, from what the realm gives."""
        words = [int(word) if word.isdigit() else word for word in row.split(" ")]
        name = words[0]
        if name in ("come", "weigh"):
            return self.moves(getattr(realm, name)(words[1], words[2:]))
        if name == "go":
            return self.moves(realm.go(words[1]))
        if name == "thing":
            name = "declare"
        if name in ("declare", "bring", "lose", "twice", "fall", "rise"):
            getattr(realm, name)(*words[1:])
            return "ok"
        if name in ("write", "read"):
            return str(getattr(realm, name)(*words[1:]))
        if name in ("homes", "away"):
            return " ".join(getattr(realm, name)(*words[1:]))
        if name in ("shelf", "known"):
            return self.writes(getattr(realm, name)(*words[1:]))
        if name == "ask":
            return (realm.status(words[1]) + " " + self.writes(realm.found(words[1]))).strip()
        if name == "missed":
            return " ".join(f"{asker}.{count}" for asker, count in realm.missed(words[1]))
        return self.wanted_of_all(realm, name, words)

    def wanted_of_all(self, realm, name, words):
        if name == "letters":
            return " ".join(":".join("-" if part is None else str(part) for part in letter)
                            for letter in realm.letters())
        if name == "hints":
            return " ".join(f"{keeper}>{house}:{key}" for keeper, house, key, state in realm.hints())
        if name == "meet":
            keys, nodes = realm.meet(*words[1:])
            return "".join(f"{key} " for key in keys) + f"/ {len(nodes)}"
        if name == "mend":
            return str(sum(questions for one, other, keys, questions in realm.mend()))
        if name == "scant":
            told = scant(realm.houses(), [(key, realm.counts_of(key)[0]) for key in realm.things()])
            return " ".join(":".join(str(number) for number in row) for row in told)
        if words[1] not in realm.houses():
            raise NoHouse(words[1])
        if name == "share":
            return "/".join(str(number) for number in shares_of(realm.houses())[words[1]])
        least, most = bounds(realm.houses())[words[1]]
        return f"{firsts(realm.houses())[words[1]]} {least} {most}"

    def moves(self, told):
        rows = [f"{key}:{loser or '-'}>{gainer or '-'}:{word}:{house}" for key, loser, gainer, word, house in told]
        return " ".join(rows) or "ok"

    def writes(self, state):
        return " ".join(f"{asker}.{count}={value}" for asker, count, value in standing(state))

    def test_drawn_rows(self):
        answered = {}
        turned_down = {}
        for seed in range(40):
            chooser = random.Random(seed)
            desk = Desk()
            realm = Realm()
            for number in range(160):
                row = self.row_of(chooser, realm)
                name = row.split(" ")[0]
                try:
                    wanted = self.wanted(realm, row)
                except ValueError as refusal:
                    with self.assertRaises(refusal.__class__) as taken:
                        desk.say(row)
                    self.assertEqual(vars(taken.exception), vars(refusal))
                    turned_down[name] = True
                else:
                    self.assertEqual(desk.say(row), wanted)
                    answered[name] = True
                self.assertEqual(told_of(desk.realm, ASKERS), told_of(realm, ASKERS))
        self.assertEqual(sorted(answered), sorted({row.split(" ")[0] for row in LISTED_ROWS}))
        self.assertEqual(sorted(set(answered) - set(turned_down)), ["away", "hints", "letters", "scant"])


if __name__ == "__main__":
    unittest.main()
