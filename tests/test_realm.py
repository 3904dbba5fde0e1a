"""The realm: points 2, 4 and 70 to 76."""

import unittest

from threeroofs.dealing import dealt
from threeroofs.errors import Away, LastHouse, NoHouse, NoPlots, NoThing, OldHouse, PlotTaken
from threeroofs.knowing import joined
from threeroofs.moves import moves
from threeroofs.realm import Realm
from threeroofs.world import World

from plain import told_of
from samples import A, B, C, D, E, FIVE, NO_HOUSES, refused

V = {"x": (1, "v")}
W = {"y": (1, "w")}
U = {"z": (1, "u")}
NO_PLOTS = [[], (), (9,), {9: 9}, {9}, None, 9, "9", [11], [-1], [9, 9], [True], [9.0], ["9"], [None], [[9]], [9, 11]]


def realm_of(houses, things=()):
    """Things are (key, copies), a read and a write hearing all of them."""
    realm = Realm()
    for house, plots in houses.items():
        realm.come(house, list(plots))
    for key, copies in things:
        realm.declare(key, copies, copies, copies)
    return realm


def five(*things):
    return realm_of(FIVE, things)


def told(realm):
    return told_of(realm, ["x", "y", "z"])


def shelves(realm, key):
    return {house: realm.shelf(house, key) for house in realm.houses() if realm.shelf(house, key) != {}}


class ANewRealm(unittest.TestCase):
    def test_it_is_a_world(self):
        self.assertEqual(Realm.__bases__, (World,))
        self.assertIsInstance(Realm(), World)

    def test_no_houses_and_no_things(self):
        self.assertEqual(told(Realm()), {"houses": {}, "things": [], "counts": {}, "homes": {}, "letters": [],
                                         "away": [], "hints": [], "asks": [], "shelves": {}, "known": {}})

    def test_two_realms(self):
        one = five((0, 3))
        other = Realm()
        one.write("x", 0, "v")
        one.fall(A)
        self.assertEqual(told(other), told(Realm()))
        other.come(A, [7])
        other.declare(0, 1, 1, 1)
        self.assertEqual(other.write("x", 0, "w"), 1)
        self.assertEqual((one.houses(), one.away(), one.known("x", 0)), (FIVE, [A], V))

    def test_houses_are_told_as_a_town_tells_them(self):
        realm = Realm()
        realm.come(B, [7, 3, 10])
        realm.come(A, [5])
        self.assertEqual(realm.houses(), {A: (5,), B: (3, 7, 10)})
        realm.weigh(A, [9, 0])
        self.assertEqual(realm.houses(), {A: (0, 9), B: (3, 7, 10)})
        realm.go(B)
        self.assertEqual(realm.houses(), {A: (0, 9)})

    def test_what_a_world_does_it_does_likewise(self):
        realm = realm_of(FIVE)
        world = World(FIVE)
        for one in (realm, world):
            one.declare(0, 3, 2, 2)
            one.write("x", 0, "v")
            one.fall(B)
            for number in (1, 2, 3, 4, 5):
                one.bring(number)
            one.read("y", 0)
            one.twice(6)
            one.lose(7)
            one.rise(B)
            one.lay(C, 0, U)
            one.bring(8)
        self.assertEqual(told(realm), told(world))
        self.assertEqual(realm.hints(), [])

    def test_a_thing_declared_while_there_is_no_house(self):
        realm = Realm()
        realm.declare(0, 2, 1, 1)
        self.assertEqual((realm.homes(0), realm.write("x", 0, "v"), realm.letters()), ([], 1, []))
        self.assertEqual(realm.come(B, [4]), [(0, None, B, "came", B)])
        self.assertEqual((realm.homes(0), realm.shelf(B, 0), realm.status(1)), ([B], {}, "broken"))
        self.assertEqual(realm.come(A, [1]), [(0, None, A, "came", A)])
        self.assertEqual(realm.homes(0), [A, B])


class Refusals(unittest.TestCase):
    def setUp(self):
        self.realm = five((0, 3), (7, 2))
        self.realm.write("x", 0, "v")
        self.realm.bring(1)
        self.before = told(self.realm)

    def tearDown(self):
        self.assertEqual(told(self.realm), self.before)

    def no_plots(self, deed, *handed):
        with self.assertRaises(NoPlots) as taken:
            deed(*handed)
        self.assertIs(taken.exception.__class__, NoPlots)

    def plot_taken(self, plot, house, deed, *handed):
        refused(self, PlotTaken, "plot", plot, deed, *handed)
        refused(self, PlotTaken, "house", house, deed, *handed)

    def test_a_house_that_comes(self):
        for house in NO_HOUSES:
            refused(self, NoHouse, "house", house, self.realm.come, house, [9])
            refused(self, NoHouse, "house", house, self.realm.come, house, [])
        for plots in NO_PLOTS + [[0], [9]]:
            refused(self, OldHouse, "house", A, self.realm.come, A, plots)
        for plots in NO_PLOTS:
            self.no_plots(self.realm.come, "f.1.a", plots)
        self.no_plots(self.realm.come, "f.1.a", [0, 11])
        self.plot_taken(1, B, self.realm.come, "f.1.a", [9, 4, 1, 3])

    def test_a_house_that_goes(self):
        for house in NO_HOUSES + ["f.1.a"]:
            refused(self, NoHouse, "house", house, self.realm.go, house)

    def test_a_house_that_is_weighed(self):
        for house in NO_HOUSES + ["f.1.a"]:
            refused(self, NoHouse, "house", house, self.realm.weigh, house, [9])
            refused(self, NoHouse, "house", house, self.realm.weigh, house, [])
        for plots in NO_PLOTS:
            self.no_plots(self.realm.weigh, A, plots)
        self.plot_taken(1, B, self.realm.weigh, A, [0, 9, 4, 1, 3])

    def test_away_ahead_of_all_else(self):
        for fallen, first in (([D, B], B), ([E], E), ([A, E], A)):
            for house in fallen:
                self.realm.fall(house)
            for house in NO_HOUSES + ["f.1.a"] + sorted(FIVE):
                refused(self, Away, "house", first, self.realm.come, house, [9])
                refused(self, Away, "house", first, self.realm.come, house, [0])
                refused(self, Away, "house", first, self.realm.come, house, None)
                refused(self, Away, "house", first, self.realm.go, house)
                refused(self, Away, "house", first, self.realm.weigh, house, [9])
                refused(self, Away, "house", first, self.realm.weigh, house, "")
            for house in fallen:
                self.realm.rise(house)


class TheLastHouse(unittest.TestCase):
    def test_it_may_not_go(self):
        realm = realm_of({A: (0, 3)}, [(0, 2)])
        before = told(realm)
        refused(self, LastHouse, "house", A, realm.go, A)
        self.assertEqual(told(realm), before)

    def test_behind_no_house_and_away(self):
        realm = realm_of({A: (0,)})
        for house in NO_HOUSES + [B]:
            refused(self, NoHouse, "house", house, realm.go, house)
        realm.fall(A)
        refused(self, Away, "house", A, realm.go, A)
        refused(self, Away, "house", A, realm.go, B)

    def test_one_of_two_may(self):
        realm = realm_of({A: (0,), B: (1,)})
        self.assertEqual(realm.go(A), [])
        refused(self, LastHouse, "house", B, realm.go, B)
        realm.come(A, [0])
        self.assertEqual(realm.go(B), [])
        self.assertEqual(realm.houses(), {A: (0,)})

    def test_no_house_at_all(self):
        for house in NO_HOUSES + [A]:
            refused(self, NoHouse, "house", house, Realm().go, house)

    def test_it_may_be_weighed(self):
        realm = realm_of({A: (0,)}, [(0, 2)])
        self.assertEqual(realm.weigh(A, [7, 2]), [])
        self.assertEqual(realm.houses(), {A: (2, 7)})


class Moves(unittest.TestCase):
    def test_from_a_house_to_one_that_comes(self):
        realm = realm_of({B: (1,), C: (2,), D: (3,)}, [(0, 2), (110, 3), (220, 1)])
        self.assertEqual(realm.come(A, [0]), [(0, C, A, "came", A), (110, D, A, "came", A), (220, B, A, "came", A)])
        self.assertEqual((realm.homes(0), realm.homes(110), realm.homes(220)), ([A, B], [A, B, C], [A]))

    def test_from_none(self):
        realm = realm_of({A: (0,), B: (1,)}, [(0, 3), (110, 2)])
        self.assertEqual(realm.come(C, [2]), [(0, None, C, "came", C)])

    def test_from_one_that_goes(self):
        realm = five((110, 3), (0, 2), (220, 5))
        self.assertEqual(realm.go(B), [(0, B, C, "went", B), (110, B, D, "went", B), (220, B, None, "went", B)])
        self.assertEqual(realm.homes(220), [A, C, D, E])

    def test_one_that_is_weighed(self):
        realm = five((0, 2), (110, 4))
        self.assertEqual(realm.weigh(A, [10]), [(0, A, C, "weighs", A), (110, A, E, "weighs", A)])
        self.assertEqual(realm.weigh(A, [0]), [(0, C, A, "weighs", A), (110, E, A, "weighs", A)])

    def test_nothing_moves(self):
        realm = five((0, 2))
        self.assertEqual(realm.come("f.1.a", [9]), [])
        self.assertEqual(realm.weigh("f.1.a", [8]), [])
        self.assertEqual(realm.go("f.1.a"), [])
        self.assertEqual(realm.weigh(A, [0]), [])
        self.assertEqual(Realm().come(A, [0]), [])

    def test_by_keys_rising(self):
        keys = [255, 3, 40, 99, 100, 0, 12, 110, 7, 200, 21]
        realm = realm_of({A: (0, 1, 2)}, [(key, 2) for key in keys])
        told_moves = realm.come(B, [3])
        self.assertEqual(told_moves, [(key, None, B, "came", B) for key in sorted(keys)])

    def test_as_point_34_tells_for_each_thing(self):
        things = [(key, 1 + key % 5) for key in range(0, 256, 7)]
        realm = realm_of({A: (0, 5), B: (1, 6), "a.1.b": (2,), "a.2.a": (3,), "b.1.b": (9, 10)}, things)
        for deed, handed in ((realm.come, ("c.1.a", [4])), (realm.weigh, (A, [7, 5])), (realm.go, ("a.1.b",)),
                             (realm.come, ("b.2.a", [0, 8])), (realm.weigh, (B, [6, 2, 1])), (realm.go, (A,))):
            old = realm.houses()
            answer = deed(*handed)
            new = realm.houses()
            wanted = [(key,) + move for key, copies in things for move in moves(old, new, key % 110, copies)]
            self.assertEqual(answer, wanted)
            self.assertEqual([realm.homes(key) for key, copies in things],
                             [dealt(new, key % 110, copies) for key, copies in things])


class WhatGoesAlong(unittest.TestCase):
    def test_from_a_house_to_another_one(self):
        realm = five((0, 3))
        for house, state in ((A, V), (B, W), (C, U)):
            realm.lay(house, 0, state)
        self.assertEqual(realm.go(B), [(0, B, D, "went", B)])
        self.assertEqual(shelves(realm, 0), {A: V, C: U, D: W})
        self.assertEqual(realm.come(B, [1]), [(0, D, B, "came", B)])
        self.assertEqual(shelves(realm, 0), {A: V, B: W, C: U})
        self.assertEqual(realm.weigh(C, [9]), [(0, C, D, "weighs", C)])
        self.assertEqual(shelves(realm, 0), {A: V, B: W, D: U})
        self.assertEqual(realm.shelf(C, 0), {})
        self.assertEqual(realm.weigh(E, [2]), [(0, D, E, "weighs", E)])
        self.assertEqual(shelves(realm, 0), {A: V, B: W, E: U})

    def test_what_is_written_over_goes_along(self):
        realm = five((0, 1))
        realm.lay(A, 0, {"x": (3, None), "y": (2, "w")})
        realm.go(A)
        self.assertEqual(shelves(realm, 0), {B: {"x": (3, None), "y": (2, "w")}})

    def test_from_none(self):
        realm = realm_of({A: (0,), B: (1,)}, [(0, 4)])
        realm.lay(A, 0, V)
        realm.lay(B, 0, {"x": (1, None), "y": (1, "w")})
        self.assertEqual(realm.come(C, [2]), [(0, None, C, "came", C)])
        self.assertEqual(shelves(realm, 0),
                         {A: V, B: {"x": (1, None), "y": (1, "w")}, C: {"x": (1, None), "y": (1, "w")}})
        realm.lay(C, 0, U)
        realm.come(D, [3])
        self.assertEqual(realm.shelf(D, 0), {"x": (1, None), "y": (1, "w"), "z": (1, "u")})
        self.assertEqual(realm.shelf(A, 0), V)

    def test_to_none(self):
        realm = realm_of({A: (0,), B: (1,), C: (2,)}, [(0, 3)])
        realm.lay(A, 0, V)
        realm.lay(B, 0, W)
        realm.lay(C, 0, {"x": (1, None), "z": (1, "u")})
        self.assertEqual(realm.go(C), [(0, C, None, "went", C)])
        self.assertEqual(shelves(realm, 0), {A: {"x": (1, None), "z": (1, "u")},
                                             B: {"x": (1, None), "y": (1, "w"), "z": (1, "u")}})
        realm.go(A)
        self.assertEqual(shelves(realm, 0), {B: {"x": (1, None), "y": (1, "w"), "z": (1, "u")}})

    def test_several_things_in_one_change(self):
        realm = five((0, 2), (110, 5), (220, 1))
        for key, state in ((0, V), (110, W), (220, U)):
            realm.lay(A, key, state)
        self.assertEqual(realm.go(A), [(0, A, C, "went", A), (110, A, None, "went", A), (220, A, B, "went", A)])
        self.assertEqual([shelves(realm, key) for key in (0, 110, 220)], [{C: V}, {B: W, C: W, D: W, E: W}, {B: U}])

    def test_one_that_comes_again_has_only_what_moves_to_it(self):
        realm = five((0, 2))
        realm.lay(A, 0, V)
        realm.lay(B, 0, W)
        realm.go(A)
        realm.come(A, [9])
        self.assertEqual(shelves(realm, 0), {B: W, C: V})

    def test_things_that_do_not_move_stay_as_they_are(self):
        realm = five((0, 1), (110, 3))
        realm.lay(A, 0, V)
        realm.lay(B, 110, W)
        realm.go(C)
        self.assertEqual((shelves(realm, 0), shelves(realm, 110)), ({A: V}, {B: W}))

    def test_what_askers_know_stays(self):
        realm = five((0, 3))
        realm.write("x", 0, "v")
        realm.go(A)
        self.assertEqual((realm.known("x", 0), realm.known("y", 0)), (V, {}))


class BrokenAsks(unittest.TestCase):
    def setUp(self):
        """Of thing 0, with homes A and B: ask 1 is done, 2 an open write, 3 an open read that has heard B."""
        self.realm = five((0, 2), (110, 1))
        self.realm.write("x", 0, "v")
        for number in (1, 2, 3, 4):
            self.realm.bring(number)
        self.realm.write("y", 0, "w")
        self.realm.read("z", 0)
        self.realm.bring(8)
        self.realm.bring(9)
        self.realm.read("z", 110)

    def asks(self):
        return [(self.realm.status(number), self.realm.found(number), self.realm.missed(number))
                for number in range(1, 5)]

    def test_ahead_of_a_change(self):
        self.assertEqual(self.asks(), [("done", V, []), ("open", W, []), ("open", V, []), ("open", {}, [])])
        self.assertEqual(self.realm.letters(), [(5, "put", 2, A, 0), (6, "put", 2, B, 0), (7, "query", 3, A, 0),
                                                (10, "query", 4, A, 110)])

    def test_of_a_thing_that_moves(self):
        self.realm.go(B)
        self.assertEqual(self.asks(), [("done", V, []), ("broken", W, []), ("broken", V, []), ("open", {}, [])])

    def test_of_things_that_do_not_move(self):
        self.realm.go(C)
        self.realm.weigh(D, [7])
        self.realm.come("f.1.a", [10])
        self.assertEqual([ask[0] for ask in self.asks()], ["done", "open", "open", "open"])

    def test_of_one_whose_homes_change_in_their_order_alone(self):
        self.realm.go(C)
        self.realm.weigh(A, [2])
        self.assertEqual((self.realm.homes(0), self.realm.homes(110)), ([B, A], [B]))
        self.assertEqual([ask[0] for ask in self.asks()], ["done", "open", "open", "broken"])
        self.realm.bring(7)
        self.realm.bring(11)
        self.assertEqual((self.realm.status(3), self.realm.known("z", 0)), ("done", V))

    def test_their_letters_stay_on_their_way(self):
        before = self.realm.letters()
        self.realm.go(B)
        self.assertEqual(self.realm.letters(), before)

    def test_their_letters_brought_later(self):
        self.realm.go(B)
        self.assertEqual(self.realm.homes(0), [A, C])
        broken = self.asks()
        for number in (5, 6, 7):
            self.realm.bring(number)
        self.assertEqual(self.realm.letters(), [(10, "query", 4, A, 110), (11, "ack", 2, A, 0), (12, "told", 3, A, 0)])
        self.assertEqual(shelves(self.realm, 0), {A: {"x": (1, "v"), "y": (1, "w")}, C: V})
        self.realm.bring(11)
        self.realm.bring(12)
        self.assertEqual(self.asks(), broken)
        self.assertEqual((self.realm.known("z", 0), self.realm.known("y", 0)), ({}, W))

    def test_a_broken_ask_stays_so_behind_later_changes(self):
        self.realm.go(B)
        broken = self.asks()
        self.realm.come(B, [1])
        self.realm.bring(5)
        self.realm.bring(6)
        for letter in self.realm.letters():
            if letter[1] == "ack":
                self.realm.bring(letter[0])
        self.assertEqual(self.asks(), broken)

    def test_where_to_or_from_is_none(self):
        realm = realm_of({A: (0,)}, [(0, 2)])
        realm.read("x", 0)
        realm.come(B, [1])
        self.assertEqual(realm.status(1), "broken")
        realm.read("x", 0)
        realm.go(A)
        self.assertEqual((realm.status(2), realm.read("x", 0), realm.status(3)), ("broken", 3, "open"))


class Meeting(unittest.TestCase):
    def test_shelves_that_know_alike(self):
        realm = five((0, 3), (110, 2))
        self.assertEqual(realm.meet(A, B), ([], [1]))
        for house in (A, B):
            realm.lay(house, 0, V)
            realm.lay(house, 110, W)
        before = told(realm)
        self.assertEqual(realm.meet(A, B), ([], [1]))
        self.assertEqual(told(realm), before)

    def test_shelves_that_know_unlike(self):
        realm = five((0, 3), (110, 2))
        realm.lay(A, 0, V)
        realm.lay(B, 0, {"x": (1, None), "y": (1, "w")})
        realm.lay(C, 0, U)
        self.assertEqual(realm.meet(A, B), ([0], [1, 2, 4, 8, 16, 32, 64, 128, 256, 257, 129, 65, 33, 17, 9, 5, 3]))
        both = {"x": (1, None), "y": (1, "w")}
        self.assertEqual(shelves(realm, 0), {A: both, B: both, C: U})
        self.assertEqual(realm.meet(A, B), ([], [1]))
        self.assertEqual(realm.meet(C, B)[0], [0])
        self.assertEqual(shelves(realm, 0), {A: both, B: joined(both, U), C: joined(both, U)})

    def test_each_of_the_two_learns(self):
        for one, other in ((A, B), (B, A)):
            realm = five((0, 2))
            realm.lay(A, 0, V)
            realm.lay(B, 0, W)
            self.assertEqual(realm.meet(one, other)[0], [0])
            self.assertEqual(shelves(realm, 0), {A: joined(V, W), B: joined(V, W)})

    def test_several_things(self):
        realm = five((0, 5), (7, 5), (110, 5), (220, 5), (255, 5))
        for key in (255, 110, 7):
            realm.lay(A, key, V)
        for key in (220, 110):
            realm.lay(E, key, V)
        keys, nodes = realm.meet(E, A)
        self.assertEqual((keys, nodes[0], len(nodes)), ([7, 220, 255], 1, len(set(nodes))))
        self.assertEqual([realm.shelf(E, key) for key in (0, 7, 110, 220, 255)], [{}, V, V, V, V])
        self.assertEqual([realm.shelf(A, key) for key in (0, 7, 110, 220, 255)], [{}, V, V, V, V])
        self.assertEqual([realm.shelf(B, key) for key in (0, 7, 110, 220, 255)], [{}] * 5)

    def test_nothing_in_common(self):
        realm = five((0, 2))
        realm.lay(A, 0, V)
        for one, other in ((A, C), (C, A), (D, E)):
            self.assertEqual(realm.meet(one, other), ([], [1]))
        self.assertEqual(shelves(realm, 0), {A: V})
        self.assertEqual(realm_of(FIVE).meet(A, B), ([], [1]))

    def test_things_of_one_of_them_alone(self):
        realm = five((0, 2), (110, 1))
        realm.lay(A, 110, V)
        self.assertEqual(realm.meet(A, B), ([], [1]))
        self.assertEqual(shelves(realm, 110), {A: V})

    def test_a_house_that_meets_itself(self):
        realm = five((0, 2))
        realm.lay(A, 0, V)
        for house in (A, E):
            self.assertEqual(realm.meet(house, house), ([], [1]))
        self.assertEqual(shelves(realm, 0), {A: V})

    def test_a_third_one_may_be_away(self):
        realm = five((0, 3))
        realm.lay(A, 0, V)
        realm.fall(C)
        self.assertEqual(realm.meet(A, B)[0], [0])
        self.assertEqual(shelves(realm, 0), {A: V, B: V})

    def test_it_changes_shelves_alone(self):
        realm = five((0, 3))
        realm.write("x", 0, "v")
        realm.read("y", 0)
        for number in (1, 4):
            realm.bring(number)
        realm.fall(E)
        before = told(realm)
        self.assertEqual(realm.meet(A, B)[0], [0])
        after = told(realm)
        self.assertEqual(after["shelves"].pop((B, 0)), V)
        self.assertEqual(before["shelves"].pop((B, 0)), {})
        self.assertEqual(after, before)

    def test_no_house(self):
        realm = five((0, 3))
        realm.fall(A)
        before = told(realm)
        for house in NO_HOUSES + ["f.1.a"]:
            refused(self, NoHouse, "house", house, realm.meet, house, A)
            refused(self, NoHouse, "house", house, realm.meet, A, house)
            refused(self, NoHouse, "house", house, realm.meet, house, "g.1.a")
            refused(self, NoHouse, "house", "g.1.a", realm.meet, "g.1.a", house)
            refused(self, NoHouse, "house", house, realm.meet, house, house)
        self.assertEqual(told(realm), before)

    def test_away(self):
        realm = five((0, 3))
        realm.lay(C, 0, V)
        realm.fall(A)
        realm.fall(B)
        before = told(realm)
        refused(self, Away, "house", A, realm.meet, A, B)
        refused(self, Away, "house", B, realm.meet, B, A)
        refused(self, Away, "house", B, realm.meet, B, C)
        refused(self, Away, "house", B, realm.meet, C, B)
        refused(self, Away, "house", A, realm.meet, A, A)
        self.assertEqual(told(realm), before)

    def test_what_is_given_is_the_askers_own(self):
        realm = five((0, 2))
        realm.lay(A, 0, V)
        given = realm.meet(A, B)
        given[0].append(7)
        given[1].clear()
        self.assertEqual((realm.meet(A, B), realm.things()), (([], [1]), [0]))
        self.assertEqual(given, ([0, 7], []))


class ARoundOfMeetings(unittest.TestCase):
    def test_fewer_than_two_houses(self):
        self.assertEqual(Realm().mend(), [])
        realm = realm_of({A: (0,)}, [(0, 2)])
        realm.lay(A, 0, V)
        self.assertEqual(realm.mend(), [])
        self.assertEqual(realm.shelf(A, 0), V)

    def test_two(self):
        realm = realm_of({B: (0,), A: (1,)}, [(0, 2)])
        self.assertEqual(realm.mend(), [(A, B, [], 1)])
        realm.lay(B, 0, V)
        self.assertEqual(realm.mend(), [(A, B, [0], 17)])
        self.assertEqual(shelves(realm, 0), {A: V, B: V})
        self.assertEqual(realm.mend(), [(A, B, [], 1)])

    def test_many_in_the_order_of_names(self):
        """A and C, and C and D, know unlike; what C learns of A goes on to D, and what D has goes on to C alone."""
        realm = realm_of({D: (2,), C: (1,), A: (0,), E: (9,)}, [(0, 3), (110, 1)])
        realm.lay(A, 0, V)
        realm.lay(C, 0, W)
        realm.lay(D, 0, joined(V, W))
        self.assertEqual(realm.mend(), [(A, C, [0], 17), (A, D, [], 1), (A, E, [], 1), (C, D, [], 1), (C, E, [], 1),
                                        (D, E, [], 1)])
        realm.lay(D, 0, U)
        realm.lay(A, 110, V)
        self.assertEqual(realm.mend(), [(A, C, [], 1), (A, D, [0], 17), (A, E, [], 1), (C, D, [0], 17), (C, E, [], 1),
                                        (D, E, [], 1)])
        everything = joined(joined(V, W), U)
        self.assertEqual(shelves(realm, 0), {A: everything, C: everything, D: everything})
        self.assertEqual(shelves(realm, 110), {A: V})

    def test_all_homes_know_alike_behind_it(self):
        realm = five((0, 5), (7, 4), (110, 3))
        states = {}
        for number, house in enumerate(FIVE):
            for key in (0, 7, 110):
                realm.lay(house, key, {f"x{number}": (1 + number, "v"), "y": (1, "w" if number % 2 else None)})
        for key in (0, 7, 110):
            states[key] = {}
            for house in realm.homes(key):
                states[key] = joined(states[key], realm.shelf(house, key))
        answer = realm.mend()
        self.assertEqual([(one, other) for one, other, keys, questions in answer],
                         [(one, other) for one in FIVE for other in FIVE if one < other])
        for key in (0, 7, 110):
            for house in realm.homes(key):
                self.assertEqual(realm.shelf(house, key), states[key])

    def test_away(self):
        for houses in ({A: (0,)}, FIVE):
            for fallen in ([A], sorted(houses), sorted(houses)[-1:], sorted(houses)[-2:]):
                realm = realm_of(houses, [(0, 3)])
                realm.lay(A, 0, V)
                for house in reversed(fallen):
                    realm.fall(house)
                before = told(realm)
                refused(self, Away, "house", fallen[0], realm.mend)
                self.assertEqual(told(realm), before)

    def test_it_changes_shelves_alone(self):
        realm = five((0, 3))
        realm.write("x", 0, "v")
        realm.read("y", 0)
        for number in (1, 4):
            realm.bring(number)
        before = told(realm)
        realm.mend()
        after = told(realm)
        self.assertEqual(after["shelves"], {**before["shelves"], (B, 0): V, (C, 0): V})
        self.assertEqual({**after, "shelves": {}}, {**before, "shelves": {}})

    def test_what_is_given_is_the_askers_own(self):
        realm = five((0, 2))
        realm.lay(A, 0, V)
        given = realm.mend()
        given[0][2].append(9)
        given.clear()
        self.assertEqual(len(realm.mend()), 10)


class TheAskersOwn(unittest.TestCase):
    def test_plots_handed_in(self):
        realm = Realm()
        plots = [4, 1]
        realm.come(A, plots)
        self.assertEqual(plots, [4, 1])
        plots.append(7)
        self.assertEqual(realm.houses(), {A: (1, 4)})
        realm.weigh(A, plots)
        self.assertEqual(plots, [4, 1, 7])
        plots.clear()
        self.assertEqual(realm.houses(), {A: (1, 4, 7)})

    def test_moves_and_houses_given(self):
        realm = realm_of({A: (0,)}, [(0, 2)])
        given = realm.come(B, [1])
        kept = realm.houses()
        given.clear()
        realm.houses().clear()
        self.assertEqual(realm.homes(0), [A, B])
        self.assertEqual(realm.go(B), [(0, B, None, "went", B)])
        self.assertEqual(kept, {A: (0,), B: (1,)})

    def test_what_was_refused_may_be_done_rightly_behind_it(self):
        realm = realm_of({A: (0,)}, [(0, 2)])
        with self.assertRaises(PlotTaken):
            realm.come(B, [0, 1])
        with self.assertRaises(NoThing):
            realm.homes(5)
        realm.fall(A)
        with self.assertRaises(Away):
            realm.come(B, [1])
        realm.rise(A)
        self.assertEqual(realm.come(B, [1]), [(0, None, B, "came", B)])


if __name__ == "__main__":
    unittest.main()
