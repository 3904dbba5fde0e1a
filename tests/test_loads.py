"""Firsts, loads and their bounds: points 2 and 30 to 33."""

import random
import unittest

from threeroofs.dealing import dealt
from threeroofs.loads import bounds, firsts, loads
from threeroofs.orders import order

from samples import some_houses, turned

DRAWERS = range(110)
# Point 32's q by the number of plots held; that of one, two, three and eleven stand in the document.
LEAST = {1: 110, 2: 55, 3: 30, 4: 22, 5: 18, 6: 15, 7: 14, 8: 13, 9: 12, 10: 11, 11: 10}


def houses_of_each_size(seed, times):
    chooser = random.Random(seed)
    for held in range(1, 12):
        for time in range(times):
            yield held, some_houses(chooser, held)


class NoHouses(unittest.TestCase):
    def test_all_of_them_are_empty(self):
        self.assertEqual(firsts({}), {})
        self.assertEqual(bounds({}), {})
        for many in range(21):
            self.assertEqual(loads({}, many), {})


class Firsts(unittest.TestCase):
    def test_one_house(self):
        self.assertEqual(firsts({"a.a.a": (7,)}), {"a.a.a": 110})
        self.assertEqual(firsts({"a.a.a": (0, 3, 10)}), {"a.a.a": 110})

    def test_two_plots_share_evenly(self):
        self.assertEqual(firsts({"a.a.a": (7,), "b.b.b": (2,)}), {"a.a.a": 55, "b.b.b": 55})
        self.assertEqual(firsts({"a.a.a": (7,), "a.a.b": (8,)}), {"a.a.a": 55, "a.a.b": 55})

    def test_all_plots_held_share_evenly(self):
        self.assertEqual(firsts({f"a.a.{plot}": (plot,) for plot in range(11)}), {f"a.a.{plot}": 10 for plot in range(11)})
        self.assertEqual(firsts({"a.a.a": tuple(range(9)), "b.b.b": (9, 10)}), {"a.a.a": 90, "b.b.b": 20})

    def test_each_house_has_an_entry(self):
        for held, houses in houses_of_each_size(1, 10):
            told = firsts(houses)
            self.assertEqual(sorted(told), sorted(houses))
            self.assertEqual({type(number) for number in told.values()}, {int})

    def test_the_first_of_each_drawers_order(self):
        for held, houses in houses_of_each_size(2, 20):
            heads = [order(houses, drawer)[0] for drawer in DRAWERS]
            self.assertEqual(firsts(houses), {name: heads.count(name) for name in houses}, houses)

    def test_all_firsts_come_to_110(self):
        for held, houses in houses_of_each_size(3, 20):
            self.assertEqual(sum(firsts(houses).values()), 110, houses)

    def test_a_dict_the_other_way_round(self):
        for held, houses in houses_of_each_size(4, 5):
            self.assertEqual(firsts(turned(houses)), firsts(houses))


class Loads(unittest.TestCase):
    def test_no_copies(self):
        self.assertEqual(loads({"a.a.a": (0,), "b.b.b": (1,)}, 0), {"a.a.a": 0, "b.b.b": 0})

    def test_as_many_copies_as_houses_or_more(self):
        houses = {"a.a.a": (0, 4), "a.b.b": (1,), "b.b.b": (2,)}
        for many in range(3, 21):
            self.assertEqual(loads(houses, many), {"a.a.a": 110, "a.b.b": 110, "b.b.b": 110})

    def test_a_house_alone_under_its_roof_has_a_copy_wherever_two_are_dealt(self):
        houses = {"a.a.a": (0,), "a.a.b": (1,), "a.b.a": (2,), "b.a.a": (3,)}
        told = loads(houses, 2)
        self.assertEqual(told["b.a.a"], 110)
        self.assertEqual(sum(told.values()), 220)

    def test_the_drawers_in_which_a_house_is_dealt(self):
        for held, houses in houses_of_each_size(5, 3):
            for many in (0, 1, 2, 3, 5, 20):
                rows = [dealt(houses, drawer, many) for drawer in DRAWERS]
                wanted = {name: len([row for row in rows if name in row]) for name in houses}
                self.assertEqual(loads(houses, many), wanted, (houses, many))

    def test_loads_for_one_copy_are_the_firsts(self):
        for held, houses in houses_of_each_size(6, 10):
            self.assertEqual(loads(houses, 1), firsts(houses), houses)

    def test_all_loads_together_and_none_less_for_more_copies(self):
        for held, houses in houses_of_each_size(7, 2):
            last = {name: 0 for name in houses}
            for many in range(21):
                told = loads(houses, many)
                self.assertEqual(sum(told.values()), 110 * min(many, len(houses)), (houses, many))
                self.assertEqual([name for name in houses if told[name] < last[name]], [])
                last = told

    def test_a_dict_the_other_way_round(self):
        for held, houses in houses_of_each_size(8, 3):
            self.assertEqual(loads(turned(houses), 3), loads(houses, 3))


class Bounds(unittest.TestCase):
    def test_reckoned_by_hand(self):
        self.assertEqual(bounds({"a.a.a": (4,)}), {"a.a.a": (110, 110)})
        self.assertEqual(bounds({"a.a.a": (4, 5)}), {"a.a.a": (110, 110)})
        self.assertEqual(bounds({"a.a.a": (4,), "b.b.b": (9,)}), {"a.a.a": (55, 55), "b.b.b": (55, 55)})
        self.assertEqual(bounds({"a.a.a": (4, 8), "b.b.b": (9,)}), {"a.a.a": (60, 80), "b.b.b": (30, 50)})
        self.assertEqual(bounds({"a.a.a": tuple(range(10)), "b.b.b": (10,)}), {"a.a.a": (100, 100), "b.b.b": (10, 10)})

    def test_each_number_of_plots_held(self):
        for held, houses in houses_of_each_size(9, 20):
            least = LEAST[held]
            wanted = {name: (len(plots) * least, 110 - (held - len(plots)) * least) for name, plots in houses.items()}
            told = bounds(houses)
            self.assertEqual(told, wanted, houses)
            self.assertEqual({type(pair) for pair in told.values()}, {tuple})

    def test_firsts_and_the_fair_part_lie_within(self):
        for held, houses in houses_of_each_size(10, 30):
            told = bounds(houses)
            for name, number in firsts(houses).items():
                least, most = told[name]
                self.assertTrue(least <= number <= most, (houses, name))
                self.assertTrue(held * least <= len(houses[name]) * 110 <= held * most, (houses, name))

    def test_a_dict_the_other_way_round(self):
        for held, houses in houses_of_each_size(11, 3):
            self.assertEqual(bounds(turned(houses)), bounds(houses))


class TakingUpPlots(unittest.TestCase):
    def grows(self, houses, name, plots, many):
        grown = dict(houses)
        grown[name] = tuple(sorted(houses[name] + plots))
        before = loads(houses, many)
        after = loads(grown, many)
        for house in houses:
            with self.subTest(houses=houses, name=name, plots=plots, many=many, house=house):
                if house == name:
                    self.assertGreaterEqual(after[house], before[house])
                else:
                    self.assertLessEqual(after[house], before[house])

    def test_the_house_loses_no_load_and_no_other_gains_any(self):
        chooser = random.Random(33)
        for held in range(1, 11):
            for time in range(8):
                houses = some_houses(chooser, held)
                free = [plot for plot in range(11) if plot not in sum(houses.values(), ())]
                plots = tuple(chooser.sample(free, chooser.randint(1, len(free))))
                for many in (0, 1, 2, 3, 4, 5, 8, 20):
                    self.grows(houses, chooser.choice(list(houses)), plots, many)

    def test_under_few_roofs(self):
        houses = {"a.a.a": (0,), "a.a.b": (3, 4), "a.b.a": (1,), "b.a.a": (2, 9), "b.a.b": (10,)}
        for name in houses:
            for plots in ((5,), (6, 7), (5, 6, 7, 8)):
                for many in range(6):
                    self.grows(houses, name, plots, many)


class TheAskersOwn(unittest.TestCase):
    def test_houses_stay_as_they_are(self):
        houses = {"b.b.b": (0, 7), "a.a.a": (1, 5)}
        firsts(houses)
        loads(houses, 2)
        bounds(houses)
        self.assertEqual(list(houses.items()), [("b.b.b", (0, 7)), ("a.a.a", (1, 5))])

    def test_each_dict_is_a_new_one(self):
        houses = {"b.b.b": (0, 7), "a.a.a": (1, 5)}
        for ask in (firsts, bounds, lambda told: loads(told, 2)):
            told = ask(houses)
            kept = dict(told)
            ask(houses).clear()
            ask({})["a.a.a"] = 1
            self.assertEqual(ask({}), {})
            self.assertEqual(ask(houses), kept)
            told.clear()
            self.assertEqual(ask(houses), kept)

    def test_what_was_told_stays_as_it_is(self):
        houses = {"a.a.a": (1,), "b.b.b": (0,)}
        told = (firsts(houses), bounds(houses), loads(houses, 2))
        houses["c.c.c"] = (2,)
        houses["a.a.a"] = (1, 5)
        firsts(houses)
        self.assertEqual(told[0], {"a.a.a": 55, "b.b.b": 55})
        self.assertEqual(told[1], {"a.a.a": (55, 55), "b.b.b": (55, 55)})
        self.assertEqual(told[2], {"a.a.a": 110, "b.b.b": 110})


if __name__ == "__main__":
    unittest.main()
