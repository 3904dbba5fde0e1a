"""Drawers, places, twins and the order of the houses: points 2 and 20 to 22."""

import itertools
import random
import unittest

from threeroofs.orders import best_of, drawer_of, order, place_of, twin_of

from samples import some_houses, turned

DRAWERS = range(110)
PLOTS = range(11)


class Drawers(unittest.TestCase):
    def test_the_drawer_of_each_key(self):
        self.assertEqual([drawer_of(key) for key in range(256)], (list(DRAWERS) * 3)[:256])


class Places(unittest.TestCase):
    def test_places_reckoned_by_hand(self):
        self.assertEqual([place_of(0, plot) for plot in PLOTS], list(PLOTS))
        self.assertEqual([place_of(3, plot) for plot in PLOTS], [3, 4, 5, 6, 7, 8, 9, 10, 0, 1, 2])
        self.assertEqual([place_of(11, plot) for plot in PLOTS], [0, 2, 4, 6, 8, 10, 1, 3, 5, 7, 9])
        self.assertEqual([place_of(27, plot) for plot in PLOTS], [5, 8, 0, 3, 6, 9, 1, 4, 7, 10, 2])
        self.assertEqual([place_of(109, plot) for plot in PLOTS], list(reversed(PLOTS)))

    def test_the_formula_for_all_drawers_and_plots(self):
        for steep in range(1, 11):
            for shift in PLOTS:
                for plot in PLOTS:
                    drawer = 11 * (steep - 1) + shift
                    self.assertEqual(place_of(drawer, plot), (steep * plot + shift) % 11, (drawer, plot))

    def test_each_drawer_sets_each_plot_at_a_place_of_its_own(self):
        for drawer in DRAWERS:
            self.assertEqual(sorted([place_of(drawer, plot) for plot in PLOTS]), list(PLOTS), drawer)

    def test_just_one_drawer_for_two_plots_and_two_places(self):
        for one, other in itertools.permutations(PLOTS, 2):
            places = [(place_of(drawer, one), place_of(drawer, other)) for drawer in DRAWERS]
            self.assertEqual(sorted(places), sorted(itertools.permutations(PLOTS, 2)), (one, other))


class Twins(unittest.TestCase):
    def test_the_twin_sets_each_plot_at_ten_less_its_place(self):
        for drawer in DRAWERS:
            twin = twin_of(drawer)
            self.assertIn(twin, DRAWERS)
            for plot in PLOTS:
                self.assertEqual(place_of(twin, plot), 10 - place_of(drawer, plot), (drawer, plot))

    def test_the_twin_of_the_twin_is_the_drawer(self):
        for drawer in DRAWERS:
            self.assertEqual(twin_of(twin_of(drawer)), drawer)

    def test_no_two_drawers_have_one_twin(self):
        self.assertEqual(sorted([twin_of(drawer) for drawer in DRAWERS]), list(DRAWERS))

    def test_twins_reckoned_by_hand(self):
        self.assertEqual([twin_of(drawer) for drawer in (0, 1, 54, 55, 109)], [109, 108, 55, 54, 0])


class Best(unittest.TestCase):
    def test_one_plot(self):
        for drawer in DRAWERS:
            for plot in PLOTS:
                self.assertEqual(best_of(drawer, (plot,)), place_of(drawer, plot))

    def test_all_plots(self):
        for drawer in DRAWERS:
            self.assertEqual(best_of(drawer, tuple(PLOTS)), 0)

    def test_the_least_place_of_plots_in_any_order(self):
        for drawer in DRAWERS:
            for plots in itertools.permutations([1, 4, 6]):
                self.assertEqual(best_of(drawer, plots), min(place_of(drawer, plot) for plot in (1, 4, 6)))

    def test_reckoned_by_hand(self):
        self.assertEqual(best_of(0, (9, 3, 7)), 3)
        self.assertEqual(best_of(11, (9, 3, 7)), 3)
        self.assertEqual(best_of(11, (9, 3, 6)), 1)
        self.assertEqual(best_of(109, (9, 3, 7)), 1)


class Orders(unittest.TestCase):
    def test_no_houses(self):
        for drawer in DRAWERS:
            self.assertEqual(order({}, drawer), [])

    def test_houses_of_one_plot(self):
        houses = {"a.a.a": (5,), "b.b.b": (0,), "c.c.c": (10,)}
        self.assertEqual(order(houses, 0), ["b.b.b", "a.a.a", "c.c.c"])
        self.assertEqual(order(houses, 1), ["c.c.c", "b.b.b", "a.a.a"])
        self.assertEqual(order(houses, 109), ["c.c.c", "a.a.a", "b.b.b"])

    def test_a_house_stands_at_the_least_of_its_places(self):
        houses = {"a.a.a": (10, 2, 8), "b.b.b": (7, 1), "c.c.c": (0,), "d.d.d": (9, 3)}
        self.assertEqual(order(houses, 0), ["c.c.c", "b.b.b", "a.a.a", "d.d.d"])
        self.assertEqual(order(houses, 109), ["a.a.a", "d.d.d", "b.b.b", "c.c.c"])

    def test_the_names_do_not_count(self):
        for names in itertools.permutations(["a.a.a", "a.a.b", "zz.z.z"]):
            houses = dict(zip(names, [(0,), (1,), (2,)]))
            self.assertEqual(order(houses, 0), list(names))

    def test_one_house_of_all_plots(self):
        for drawer in DRAWERS:
            self.assertEqual(order({"a.a.a": tuple(PLOTS)}, drawer), ["a.a.a"])

    def test_eleven_houses(self):
        houses = {f"a.a.{plot}": (plot,) for plot in PLOTS}
        for drawer in DRAWERS:
            told = order(houses, drawer)
            self.assertEqual([place_of(drawer, houses[name][0]) for name in told], list(PLOTS))

    def test_plots_of_a_tuple_in_any_order(self):
        for drawer in DRAWERS:
            wanted = order({"a.a.a": (0, 4, 7), "b.b.b": (1, 2, 9)}, drawer)
            for one in itertools.permutations([0, 4, 7]):
                for other in itertools.permutations([1, 2, 9]):
                    self.assertEqual(order({"a.a.a": one, "b.b.b": other}, drawer), wanted)

    def test_some_houses_in_all_drawers(self):
        chooser = random.Random(22)
        for number in range(60):
            houses = some_houses(chooser)
            for drawer in DRAWERS:
                owners = {}
                for name, plots in houses.items():
                    for plot in plots:
                        owners[place_of(drawer, plot)] = name
                wanted = []
                for place in sorted(owners):
                    if owners[place] not in wanted:
                        wanted.append(owners[place])
                self.assertEqual(order(houses, drawer), wanted, (houses, drawer))

    def test_a_dict_the_other_way_round(self):
        chooser = random.Random(23)
        for number in range(60):
            houses = some_houses(chooser)
            for drawer in DRAWERS:
                self.assertEqual(order(turned(houses), drawer), order(houses, drawer), (houses, drawer))


class TheAskersOwn(unittest.TestCase):
    def test_houses_stay_as_they_are(self):
        houses = {"b.b.b": (7, 0), "a.a.a": (5, 1)}
        for drawer in DRAWERS:
            order(houses, drawer)
        self.assertEqual(list(houses.items()), [("b.b.b", (7, 0)), ("a.a.a", (5, 1))])

    def test_each_list_is_a_new_one(self):
        houses = {"b.b.b": (7, 0), "a.a.a": (5, 1)}
        told = order(houses, 0)
        self.assertIs(type(told), list)
        order(houses, 0).clear()
        houses.clear()
        self.assertEqual(told, ["b.b.b", "a.a.a"])
        order({}, 0).append("a.a.a")
        self.assertEqual(order({}, 0), [])


if __name__ == "__main__":
    unittest.main()
