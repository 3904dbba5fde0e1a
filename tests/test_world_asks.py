"""What asks are, have found and missed, and what becomes of a world that is told other houses: points 57 and 58."""

import unittest

from threeroofs.errors import NoAsk
from threeroofs.world import World

from plain import told_of
from samples import A, B, C, D, E, FIVE, NO_NUMBERS, refused

V = {"x": (1, "v")}
W = {"y": (1, "w")}
VW = {"x": (1, "v"), "y": (1, "w")}

# C goes and D is home in its place; the other one has the homes of FIVE, but in another order.
WITHOUT_C = {house: plots for house, plots in FIVE.items() if house != C}
TURNED = {A: (2,), B: (1,), C: (0,), D: (3,), E: (4,)}


def world_of(copies, reads, writes, keys=(0,)):
    world = World(FIVE)
    for key in keys:
        world.declare(key, copies, reads, writes)
    return world


def bring_all(world, numbers):
    for number in numbers:
        world.bring(number)


def ask_of(world, number):
    return (world.status(number), world.found(number), world.missed(number))


class FoundAndMissed(unittest.TestCase):
    def setUp(self):
        """Ask 1, x's write, is done with A and B; y's, ask 2, is at C alone; ask 3 is a read with the tolds 13 to 15."""
        self.world = world_of(3, 2, 2)
        self.world.write("x", 0, "v")
        bring_all(self.world, [1, 2, 4, 5])
        self.world.write("y", 0, "w")
        self.world.bring(8)
        self.world.lose(9)
        self.world.read("z", 0)
        bring_all(self.world, [10, 11, 12])

    def test_an_open_and_a_done_write(self):
        self.assertEqual(ask_of(self.world, 1), ("done", V, []))
        self.assertEqual(ask_of(self.world, 2), ("open", W, []))

    def test_a_read_that_has_heard_nobody(self):
        self.assertEqual(ask_of(self.world, 3), ("open", {}, [("x", 1)]))

    def test_a_read_that_is_open(self):
        self.world.bring(15)
        self.assertEqual(ask_of(self.world, 3), ("open", W, [("x", 1)]))

    def test_a_read_that_is_done(self):
        bring_all(self.world, [15, 14])
        self.assertEqual(ask_of(self.world, 3), ("done", VW, []))
        self.world.bring(13)
        self.assertEqual(ask_of(self.world, 3), ("done", VW, []))

    def test_what_is_done_changes_no_more(self):
        bring_all(self.world, [13, 14])
        self.assertEqual(ask_of(self.world, 3), ("done", V, []))
        self.world.bring(15)
        bring_all(self.world, [6, 7, 3])
        self.assertEqual(ask_of(self.world, 3), ("done", V, []))
        self.world.rehouse(WITHOUT_C)
        self.assertEqual((ask_of(self.world, 1), ask_of(self.world, 3)), (("done", V, []), ("done", V, [])))

    def test_a_broken_read_keeps_what_it_has(self):
        self.world.bring(15)
        self.world.rehouse(WITHOUT_C)
        self.assertEqual(ask_of(self.world, 3), ("broken", W, [("x", 1)]))
        bring_all(self.world, [13, 14])
        self.assertEqual(ask_of(self.world, 3), ("broken", W, [("x", 1)]))
        self.assertEqual(self.world.known("z", 0), {})

    def test_a_broken_write_keeps_what_it_has(self):
        self.world.rehouse(WITHOUT_C)
        self.assertEqual(ask_of(self.world, 2), ("broken", W, []))
        bring_all(self.world, [6, 7, 16, 17])
        self.assertEqual(ask_of(self.world, 2), ("broken", W, []))

    def test_a_read_that_is_done_and_has_missed(self):
        world = world_of(3, 1, 1)
        for asker in ("y", "x"):
            world.write(asker, 0, "v")
        bring_all(world, [1, 4, 7, 8])
        world.read("z", 0)
        bring_all(world, [11, 12])
        self.assertEqual(ask_of(world, 3), ("done", {}, [("y", 1), ("x", 1)]))

    def test_no_ask(self):
        before = told_of(self.world, ["x", "y", "z"])
        for number in NO_NUMBERS + [4, 13, 100]:
            with self.subTest(number=number):
                refused(self, NoAsk, "ask", number, self.world.status, number)
                refused(self, NoAsk, "ask", number, self.world.found, number)
                refused(self, NoAsk, "ask", number, self.world.missed, number)
        self.assertEqual(told_of(self.world, ["x", "y", "z"]), before)

    def test_no_ask_where_none_has_begun(self):
        for number in NO_NUMBERS + [1]:
            refused(self, NoAsk, "ask", number, World(FIVE).status, number)


class OtherHouses(unittest.TestCase):
    def setUp(self):
        """Each of the homes A, B and C has another shelf; ask 4 is an open read, ask 5 an open write."""
        self.world = world_of(3, 2, 3)
        for asker, letter in (("x", 1), ("y", 6), ("z", 11)):
            self.world.write(asker, 0, "v")
            self.world.bring(letter)
        self.shelves = {house: self.world.shelf(house, 0) for house in (A, B, C)}
        for letter in self.world.letters():
            self.world.lose(letter[0])
        self.world.read("x", 0)
        self.world.write("x", 0, "w")
        self.numbers = [letter[0] for letter in self.world.letters()]

    def all_shelves(self):
        return {house: self.world.shelf(house, 0) for house in self.world.houses()}

    def test_the_shelves_are_unlike(self):
        self.assertEqual(sorted(tuple(shelf) for shelf in self.shelves.values()), [("x",), ("y",), ("z",)])

    def test_homes_that_change(self):
        self.assertIsNone(self.world.rehouse(WITHOUT_C))
        self.assertEqual((self.world.houses(), self.world.homes(0)), (WITHOUT_C, [A, B, D]))
        self.assertEqual(self.all_shelves(), {A: self.shelves[A], B: self.shelves[B], D: {}, E: {}})
        self.assertEqual((self.world.status(4), self.world.status(5)), ("broken", "broken"))

    def test_one_that_comes_back_has_nothing(self):
        self.world.rehouse(WITHOUT_C)
        self.world.rehouse(FIVE)
        self.assertEqual(self.world.homes(0), [A, B, C])
        self.assertEqual(self.all_shelves(), {A: self.shelves[A], B: self.shelves[B], C: {}, D: {}, E: {}})

    def test_one_that_is_there_and_no_home_keeps_nothing(self):
        self.world.rehouse({A: (10,), B: (1,), C: (2,), D: (3,), E: (4,)})
        self.assertEqual(self.world.homes(0), [B, C, D])
        self.assertEqual(self.all_shelves(), {A: {}, B: self.shelves[B], C: self.shelves[C], D: {}, E: {}})

    def test_homes_that_change_in_their_order_alone(self):
        self.world.rehouse(TURNED)
        self.assertEqual(self.world.homes(0), [C, B, A])
        self.assertEqual(self.all_shelves(), {**self.shelves, D: {}, E: {}})
        self.assertEqual((self.world.status(4), self.world.status(5)), ("open", "open"))
        self.assertEqual([letter[0] for letter in self.world.letters()], self.numbers)
        self.world.read("x", 0)
        self.assertEqual([letter[3] for letter in self.world.letters()[-3:]], [C, B, A])

    def test_the_same_houses_again(self):
        before = told_of(self.world, ["x", "y", "z"])
        self.world.rehouse(FIVE)
        self.assertEqual(told_of(self.world, ["x", "y", "z"]), before)

    def test_houses_that_are_no_homes_change(self):
        self.world.rehouse({A: (0,), B: (1,), C: (2,), "f.1.a": (3, 5)})
        self.assertEqual((self.world.homes(0), self.world.status(4)), ([A, B, C], "open"))
        self.assertEqual(self.all_shelves(), {**self.shelves, "f.1.a": {}})

    def test_asks_that_are_done_stay_so(self):
        world = world_of(1, 1, 1)
        world.write("x", 0, "v")
        bring_all(world, [1, 2])
        world.read("x", 0)
        bring_all(world, [3, 4])
        world.rehouse({B: (1,)})
        self.assertEqual((world.status(1), world.status(2)), ("done", "done"))

    def test_asks_that_begin_behind_it_are_open(self):
        self.world.rehouse(WITHOUT_C)
        number = self.world.write("x", 0, "u")
        self.assertEqual(self.world.status(number), "open")
        self.assertEqual([letter[3] for letter in self.world.letters()[-3:]], [A, B, D])

    def test_asks_of_a_thing_whose_homes_stay_are_open(self):
        self.world.declare(110, 2, 1, 1)
        number = self.world.read("x", 110)
        self.world.rehouse(WITHOUT_C)
        self.assertEqual((self.world.status(number), self.world.status(4)), ("open", "broken"))
        self.assertEqual(self.world.homes(110), [A, B])

    def test_fewer_homes(self):
        self.world.rehouse({B: (7,)})
        self.assertEqual((self.world.homes(0), self.world.status(4)), ([B], "broken"))
        self.assertEqual(self.all_shelves(), {B: self.shelves[B]})

    def test_no_houses_and_some_again(self):
        self.world.rehouse({})
        self.assertEqual((self.world.homes(0), self.world.houses(), self.world.status(4)), ([], {}, "broken"))
        number = self.world.read("x", 0)
        self.world.rehouse(FIVE)
        self.assertEqual((self.world.homes(0), self.world.status(number)), ([A, B, C], "broken"))
        self.assertEqual(self.all_shelves(), {house: {} for house in FIVE})

    def test_more_homes(self):
        world = World({A: (0,)})
        world.declare(0, 3, 1, 1)
        world.write("x", 0, "v")
        world.bring(1)
        world.rehouse(FIVE)
        self.assertEqual((world.homes(0), world.status(1)), ([A, B, C], "broken"))
        self.assertEqual([world.shelf(house, 0) for house in (A, B, C)], [V, {}, {}])

    def test_what_askers_know_stays(self):
        before = self.world.known("x", 0)
        self.world.rehouse({})
        self.assertEqual(self.world.known("x", 0), before)

    def test_letters_on_their_way_behind_it(self):
        """What is brought to a home that stays does what it did; to C, which went, nothing."""
        self.world.rehouse(WITHOUT_C)
        self.assertEqual([letter[0] for letter in self.world.letters()], self.numbers)
        self.assertEqual([letter[1:4] for letter in self.world.letters()], [
            ("query", 4, A), ("query", 4, B), ("query", 4, C), ("put", 5, A), ("put", 5, B), ("put", 5, C)])
        bring_all(self.world, self.numbers)
        self.assertEqual([letter[1:4] for letter in self.world.letters()],
                         [("told", 4, A), ("told", 4, B), ("ack", 5, A), ("ack", 5, B)])
        self.assertEqual(self.world.shelf(A, 0), {"x": (2, "w")})
        self.assertEqual(self.world.shelf(D, 0), {})
        before = told_of(self.world, ["x", "y", "z"])
        for letter in self.world.letters():
            self.world.bring(letter[0])
        self.assertEqual(told_of(self.world, ["x", "y", "z"]), {**before, "letters": []})

    def test_acks_and_tolds_on_their_way_behind_it(self):
        bring_all(self.world, self.numbers)
        self.world.rehouse(WITHOUT_C)
        before = told_of(self.world, ["x", "y", "z"])
        for letter in self.world.letters():
            self.world.bring(letter[0])
        self.assertEqual(told_of(self.world, ["x", "y", "z"]), {**before, "letters": []})
        self.assertEqual(ask_of(self.world, 4), ("broken", {}, []))

    def test_a_put_to_one_that_went_and_came_again(self):
        self.world.rehouse(WITHOUT_C)
        self.world.rehouse(FIVE)
        self.world.bring(self.numbers[5])
        self.assertEqual(self.world.shelf(C, 0), {"x": (2, "w")})
        self.assertEqual(self.world.letters()[-1][1:], ("ack", 5, C, 0))


class Laying(unittest.TestCase):
    def setUp(self):
        self.world = world_of(2, 1, 1)
        self.before = told_of(self.world, ["x"])

    def shelves(self):
        return [self.world.shelf(house, 0) for house in FIVE]

    def test_at_a_home(self):
        self.assertIsNone(self.world.lay(B, 0, V))
        self.assertEqual(self.shelves(), [{}, V, {}, {}, {}])
        self.world.lay(B, 0, W)
        self.assertEqual(self.shelves(), [{}, VW, {}, {}, {}])
        self.world.lay(B, 0, {"x": (1, None)})
        self.assertEqual(self.shelves(), [{}, {"x": (1, None), "y": (1, "w")}, {}, {}, {}])
        self.world.lay(B, 0, {})
        self.world.lay(B, 0, V)
        self.assertEqual(self.shelves(), [{}, {"x": (1, None), "y": (1, "w")}, {}, {}, {}])

    def test_it_changes_the_shelf_alone(self):
        self.world.lay(A, 0, V)
        after = told_of(self.world, ["x"])
        after["shelves"][A, 0] = {}
        self.assertEqual(after, self.before)

    def test_at_another_house(self):
        for house in (C, D, E):
            self.assertIsNone(self.world.lay(house, 0, V))
        self.assertEqual(told_of(self.world, ["x"]), self.before)
        self.world.rehouse({C: (0,)})
        self.assertEqual(self.world.shelf(C, 0), {})

    def test_at_one_that_is_away(self):
        self.world.fall(A)
        self.world.fall(E)
        self.world.lay(A, 0, V)
        self.world.lay(E, 0, V)
        self.assertEqual(self.shelves(), [V, {}, {}, {}, {}])
        self.assertEqual((self.world.hints(), self.world.letters()), ([], []))

    def test_of_that_thing_alone(self):
        self.world.declare(110, 2, 1, 1)
        self.world.lay(A, 110, V)
        self.assertEqual((self.world.shelf(A, 0), self.world.shelf(A, 110)), ({}, V))

    def test_what_is_laid_stays_as_it_is_and_may_be_changed_later(self):
        state = dict(V)
        self.world.lay(A, 0, state)
        self.world.lay(A, 0, W)
        self.world.lay(B, 0, state)
        self.assertEqual(state, V)
        state["q"] = (1, "u")
        state.pop("x")
        self.assertEqual(self.shelves(), [VW, V, {}, {}, {}])

    def test_a_state_told_earlier_stays_as_it_is(self):
        self.world.lay(A, 0, V)
        given = self.world.shelf(A, 0)
        self.world.lay(A, 0, W)
        self.assertEqual(given, V)


if __name__ == "__main__":
    unittest.main()
