"""Towns, their houses and plots, and the shares of houses: points 2, 4 and 12 to 16."""

import itertools
import random
import unittest

from threeroofs.errors import NoHouse, NoPlots, OldHouse, PlotTaken, RoofError
from threeroofs.shares import plus
from threeroofs.town import Town, shares_of

NO_NAMES = ["", "a", "a.b", "a.b.c.d", "a..c", "A.b.c", "a.b.c\n", "a.b.123456789"]
NO_NAMES += [None, 0, 1, True, 2.5, [], ["a.a.a"], (), ("a", "a", "a"), {}, {"a.a.a": (0,)}, {"a.a.a"}, b"a.a.a"]
NO_PLOTS = [None, 0, 3, True, "", "3", "34", (), (3,), (3, 4), {}, {3: True}, {3, 4}, range(3, 5)]
NO_PLOTS += [[], [-1], [11], [3, 11], [-1, 3], [10 ** 30], [-10 ** 30], [True], [False], [3, True], [None], ["3"], [3.0]]
NO_PLOTS += [[[3]], [(3,)], [{}], [3, {}], [3, [4]], [3, 3], [3, 4, 3], [10, 9, 10], [3, 3, 3]]


def town_of(houses):
    town = Town()
    for house, plots in houses.items():
        town.come(house, list(plots))
    return town


class TownCase(unittest.TestCase):
    def setUp(self):
        self.before = {"a.a.a": (1, 5), "b.b.b": (0, 7, 10)}
        self.town = town_of(self.before)

    def has(self, houses, free):
        self.assertEqual(self.town.houses(), houses)
        self.assertEqual(self.town.free(), free)

    def is_unchanged(self):
        self.has(self.before, [2, 3, 4, 6, 8, 9])

    def refuses(self, error, deed, *things):
        with self.assertRaises(error) as taken:
            deed(*things)
        self.assertIs(type(taken.exception), error)
        self.is_unchanged()
        return taken.exception

    def refuses_house(self, error, house, deed, *things):
        with self.subTest(house=house, things=things):
            held = self.refuses(error, deed, *things).house
            self.assertIs(type(held), type(house))
            self.assertEqual(held, house)

    def refuses_taken(self, plot, house, deed, *things):
        with self.subTest(things=things):
            error = self.refuses(PlotTaken, deed, *things)
            self.assertEqual((error.plot, error.house), (plot, house))


class NewTowns(unittest.TestCase):
    def test_a_new_town_has_no_houses(self):
        self.assertEqual(Town().houses(), {})
        self.assertEqual(Town().free(), list(range(11)))

    def test_two_towns_have_nothing_to_do_with_one_another(self):
        one = Town()
        other = Town()
        self.assertIsNone(one.come("a.a.a", [1, 2]))
        self.assertEqual(other.houses(), {})
        self.assertEqual(other.free(), list(range(11)))
        other.come("a.a.a", [2, 3])
        other.come("b.b.b", [1])
        self.assertEqual(one.houses(), {"a.a.a": (1, 2)})
        other.weigh("a.a.a", [4])
        other.go("b.b.b")
        one.go("a.a.a")
        self.assertEqual(one.houses(), {})
        self.assertEqual(other.houses(), {"a.a.a": (4,)})

    def test_the_names_own_word_and_room_may_be_alike_under_other_roofs(self):
        houses = {"a.a.a": (0,), "b.a.a": (1,), "a.b.a": (2,), "a.a.b": (3,)}
        self.assertEqual(town_of(houses).houses(), houses)


class Coming(TownCase):
    def test_a_house_comes(self):
        self.assertIsNone(self.town.come("c.c.c", [4, 2]))
        self.has({"a.a.a": (1, 5), "b.b.b": (0, 7, 10), "c.c.c": (2, 4)}, [3, 6, 8, 9])

    def test_plots_come_in_any_order(self):
        for plots in itertools.permutations([0, 2, 9, 10]):
            with self.subTest(plots=plots):
                town = Town()
                town.come("a.a.a", list(plots))
                self.assertEqual(town.houses(), {"a.a.a": (0, 2, 9, 10)})

    def test_one_plot_and_all_plots(self):
        for plots in ([0], [10], list(range(10, -1, -1))):
            with self.subTest(plots=plots):
                town = Town()
                town.come("a.a.a", plots)
                self.assertEqual(town.houses(), {"a.a.a": tuple(sorted(plots))})

    def test_eleven_houses(self):
        houses = {f"a.a.{plot}": (plot,) for plot in range(11)}
        town = town_of(houses)
        self.assertEqual(town.houses(), houses)
        self.assertEqual(town.free(), [])

    def test_no_name(self):
        for name in NO_NAMES:
            self.refuses_house(NoHouse, name, self.town.come, name, [3])

    def test_old_house(self):
        for plots in ([3], [1, 5], [5]):
            self.refuses_house(OldHouse, "a.a.a", self.town.come, "a.a.a", plots)

    def test_no_plots(self):
        for plots in NO_PLOTS:
            with self.subTest(plots=plots):
                self.refuses(NoPlots, self.town.come, "c.c.c", plots)

    def test_plot_taken(self):
        self.refuses_taken(1, "a.a.a", self.town.come, "c.c.c", [1])
        self.refuses_taken(0, "b.b.b", self.town.come, "c.c.c", [0])
        self.refuses_taken(10, "b.b.b", self.town.come, "c.c.c", [9, 10])

    def test_the_least_plot_taken_and_its_house(self):
        self.refuses_taken(5, "a.a.a", self.town.come, "c.c.c", [10, 7, 5, 2])
        self.refuses_taken(7, "b.b.b", self.town.come, "c.c.c", [9, 10, 8, 7])
        self.refuses_taken(0, "b.b.b", self.town.come, "c.c.c", [5, 1, 0])
        self.refuses_taken(1, "a.a.a", self.town.come, "c.c.c", [7, 1, 3, 10])

    def test_no_name_ahead_of_no_plots_and_of_plot_taken(self):
        for name in NO_NAMES:
            self.refuses_house(NoHouse, name, self.town.come, name, [])
            self.refuses_house(NoHouse, name, self.town.come, name, None)
            self.refuses_house(NoHouse, name, self.town.come, name, [1])

    def test_old_house_ahead_of_no_plots_and_of_plot_taken(self):
        for plots in NO_PLOTS + [[0], [5, 7], [10]]:
            self.refuses_house(OldHouse, "a.a.a", self.town.come, "a.a.a", plots)

    def test_no_plots_ahead_of_plot_taken(self):
        for plots in ([1, 11], [11, 1], [1, 1], [0, 5, 5], [1, None], (1,), [1, True], [1, {}]):
            with self.subTest(plots=plots):
                self.refuses(NoPlots, self.town.come, "c.c.c", plots)


class Going(TownCase):
    def test_a_house_goes_and_its_plots_belong_to_nobody(self):
        self.assertIsNone(self.town.go("b.b.b"))
        self.has({"a.a.a": (1, 5)}, [0, 2, 3, 4, 6, 7, 8, 9, 10])

    def test_a_town_left_without_houses(self):
        self.town.go("a.a.a")
        self.town.go("b.b.b")
        self.has({}, list(range(11)))
        self.town.come("c.c.c", [0, 1])
        self.has({"c.c.c": (0, 1)}, list(range(2, 11)))

    def test_a_house_comes_again_with_any_plots(self):
        for plots in ([1, 5], [5], [2, 3], [9, 1]):
            with self.subTest(plots=plots):
                self.town.go("a.a.a")
                self.assertIsNone(self.town.come("a.a.a", plots))
                self.assertEqual(self.town.houses()["a.a.a"], tuple(sorted(plots)))

    def test_the_plots_of_a_house_that_went_may_be_anothers(self):
        self.town.go("a.a.a")
        self.town.come("c.c.c", [5])
        self.town.weigh("b.b.b", [1])
        self.has({"b.b.b": (1,), "c.c.c": (5,)}, [0, 2, 3, 4, 6, 7, 8, 9, 10])
        with self.assertRaises(PlotTaken) as taken:
            self.town.come("a.a.a", [5, 1])
        self.assertEqual((taken.exception.plot, taken.exception.house), (1, "b.b.b"))

    def test_no_such_house(self):
        for name in NO_NAMES + ["c.c.c", "a.a.b", "a.a", "a.a.a.a"]:
            self.refuses_house(NoHouse, name, self.town.go, name)

    def test_a_house_goes_once(self):
        town = town_of({"a.a.a": (1,)})
        town.go("a.a.a")
        with self.assertRaises(NoHouse) as taken:
            town.go("a.a.a")
        self.assertEqual(taken.exception.house, "a.a.a")


class Weighing(TownCase):
    def test_plots_in_the_place_of_all_old_ones(self):
        self.assertIsNone(self.town.weigh("a.a.a", [9, 2]))
        self.has({"a.a.a": (2, 9), "b.b.b": (0, 7, 10)}, [1, 3, 4, 5, 6, 8])

    def test_some_of_the_old_plots_may_be_among_them(self):
        self.town.weigh("a.a.a", [5, 4])
        self.has({"a.a.a": (4, 5), "b.b.b": (0, 7, 10)}, [1, 2, 3, 6, 8, 9])

    def test_all_of_the_old_plots_may_be_among_them(self):
        self.town.weigh("b.b.b", [10, 0, 3, 7])
        self.has({"a.a.a": (1, 5), "b.b.b": (0, 3, 7, 10)}, [2, 4, 6, 8, 9])

    def test_the_same_plots_again(self):
        self.assertIsNone(self.town.weigh("b.b.b", [10, 7, 0]))
        self.is_unchanged()

    def test_fewer_plots(self):
        self.town.weigh("b.b.b", [7])
        self.has({"a.a.a": (1, 5), "b.b.b": (7,)}, [0, 2, 3, 4, 6, 8, 9, 10])
        self.town.come("c.c.c", [10])
        self.assertEqual(self.town.houses()["c.c.c"], (10,))

    def test_no_such_house(self):
        for name in NO_NAMES + ["c.c.c", "a.a.b"]:
            self.refuses_house(NoHouse, name, self.town.weigh, name, [3])

    def test_a_house_that_went_is_not_weighed(self):
        self.town.go("a.a.a")
        with self.assertRaises(NoHouse) as taken:
            self.town.weigh("a.a.a", [1])
        self.assertEqual(taken.exception.house, "a.a.a")
        self.assertEqual(self.town.houses(), {"b.b.b": (0, 7, 10)})

    def test_no_plots(self):
        for plots in NO_PLOTS:
            with self.subTest(plots=plots):
                self.refuses(NoPlots, self.town.weigh, "a.a.a", plots)

    def test_plot_taken(self):
        self.refuses_taken(0, "b.b.b", self.town.weigh, "a.a.a", [0])
        self.refuses_taken(1, "a.a.a", self.town.weigh, "b.b.b", [10, 7, 5, 1, 0])

    def test_own_plots_are_not_the_ones_told(self):
        self.refuses_taken(7, "b.b.b", self.town.weigh, "a.a.a", [10, 7, 5, 1])
        self.refuses_taken(5, "a.a.a", self.town.weigh, "b.b.b", [0, 5, 7])

    def test_no_house_ahead_of_no_plots_and_of_plot_taken(self):
        for name in NO_NAMES + ["c.c.c"]:
            self.refuses_house(NoHouse, name, self.town.weigh, name, [])
            self.refuses_house(NoHouse, name, self.town.weigh, name, "3")
            self.refuses_house(NoHouse, name, self.town.weigh, name, [1])

    def test_no_plots_ahead_of_plot_taken(self):
        for plots in ([0, 11], [11, 0], [0, 0], [5, 5, 7], [7, None], (7,), [0, False], [7, []]):
            with self.subTest(plots=plots):
                self.refuses(NoPlots, self.town.weigh, "a.a.a", plots)


class Telling(TownCase):
    def test_houses_are_told_with_tuples_of_rising_plots(self):
        told = self.town.houses()
        self.assertIs(type(told), dict)
        self.assertEqual(told, {"a.a.a": (1, 5), "b.b.b": (0, 7, 10)})
        self.assertEqual([type(plots) for plots in told.values()], [tuple, tuple])

    def test_free_plots_are_told_rising(self):
        told = self.town.free()
        self.assertIs(type(told), list)
        self.assertEqual(told, [2, 3, 4, 6, 8, 9])

    def test_free_plots_of_a_full_town(self):
        self.assertEqual(town_of({"a.a.a": range(11)}).free(), [])


class TheAskersOwn(TownCase):
    def test_plots_handed_in_are_not_changed(self):
        plots = [9, 2, 3]
        self.town.come("c.c.c", plots)
        self.assertEqual(plots, [9, 2, 3])
        self.town.weigh("c.c.c", plots)
        self.assertEqual(plots, [9, 2, 3])
        taken = [9, 5, 8, 0]
        with self.assertRaises(PlotTaken):
            self.town.come("d.d.d", taken)
        self.assertEqual(taken, [9, 5, 8, 0])

    def test_plots_handed_in_may_be_changed_later(self):
        plots = [9, 2]
        self.town.come("c.c.c", plots)
        plots.append(3)
        plots[0] = 4
        self.assertEqual(self.town.houses()["c.c.c"], (2, 9))
        again = [3, 9]
        self.town.weigh("c.c.c", again)
        again.clear()
        self.assertEqual(self.town.houses()["c.c.c"], (3, 9))
        self.assertEqual(self.town.free(), [2, 4, 6, 8])

    def test_what_is_done_to_the_houses_told_changes_nothing(self):
        told = self.town.houses()
        told["a.a.a"] = (9,)
        told["c.c.c"] = (2,)
        told.pop("b.b.b")
        self.is_unchanged()

    def test_what_is_done_to_the_free_plots_told_changes_nothing(self):
        told = self.town.free()
        told.clear()
        self.is_unchanged()

    def test_what_was_told_stays_as_it_is(self):
        houses = self.town.houses()
        free = self.town.free()
        self.town.come("c.c.c", [2])
        self.town.weigh("a.a.a", [3])
        self.town.go("b.b.b")
        self.town.houses()
        self.town.free()
        self.assertEqual(houses, self.before)
        self.assertEqual(free, [2, 3, 4, 6, 8, 9])

    def test_each_telling_is_a_new_one(self):
        self.assertIsNot(self.town.houses(), self.town.houses())
        self.assertIsNot(self.town.free(), self.town.free())

    def test_shares_leave_the_houses_and_are_the_askers_own(self):
        houses = {"a.a.a": (1, 5), "b.b.b": (0, 7, 10)}
        told = shares_of(houses)
        self.assertEqual(houses, {"a.a.a": (1, 5), "b.b.b": (0, 7, 10)})
        houses["c.c.c"] = (2,)
        self.assertEqual(told, {"a.a.a": (2, 5), "b.b.b": (3, 5)})
        told.clear()
        self.assertEqual(sorted(houses), ["a.a.a", "b.b.b", "c.c.c"])

    def test_the_shares_of_no_houses_are_new_ones_too(self):
        houses = {}
        told = shares_of(houses)
        told["a.a.a"] = (1, 1)
        self.assertEqual(houses, {})
        self.assertEqual(shares_of({}), {})


class Shares(unittest.TestCase):
    def test_shares_of_weights(self):
        houses = {"a.a.a": (0, 1, 2), "a.b.a": (3,), "b.a.a": (4, 10)}
        self.assertEqual(shares_of(houses), {"a.a.a": (1, 2), "a.b.a": (1, 6), "b.a.a": (1, 3)})

    def test_a_plots_number_is_no_weight(self):
        self.assertEqual(shares_of({"a.a.a": (0,), "b.b.b": (10,)}), {"a.a.a": (1, 2), "b.b.b": (1, 2)})

    def test_the_order_of_entries_changes_nothing(self):
        self.assertEqual(shares_of({"b.b.b": (1,), "a.a.a": (0, 2)}), shares_of({"a.a.a": (0, 2), "b.b.b": (1,)}))

    def test_one_house(self):
        self.assertEqual(shares_of({"a.a.a": (3,)}), {"a.a.a": (1, 1)})
        self.assertEqual(shares_of({"a.a.a": tuple(range(11))}), {"a.a.a": (1, 1)})

    def test_no_houses(self):
        self.assertEqual(shares_of({}), {})

    def test_all_shares_come_to_one(self):
        for cuts in itertools.product([False, True], repeat=10):
            houses = {"h.h.0": (0,)}
            for plot, cut in enumerate(cuts, start=1):
                if cut:
                    houses[f"h.h.{plot}"] = (plot,)
                else:
                    last = list(houses)[-1]
                    houses[last] += (plot,)
            told = shares_of(houses)
            total = (0, 1)
            for house in houses:
                total = plus(total, told[house])
            self.assertEqual(sorted(told), sorted(houses))
            self.assertEqual(total, (1, 1), houses)


def wanted_refusal(kept, deed, house, plots):
    if (house in kept) != (deed != "come"):
        return (OldHouse if deed == "come" else NoHouse, house)
    if deed == "go":
        return None
    if not plots or len(set(plots)) < len(plots) or max(plots) > 10:
        return (NoPlots,)
    taken = [(plot, name) for name in kept for plot in kept[name] if plot in plots and name != house]
    return (PlotTaken,) + min(taken) if taken else None


def refusal_told(error):
    if isinstance(error, PlotTaken):
        return (PlotTaken, error.plot, error.house)
    return (NoPlots,) if isinstance(error, NoPlots) else (type(error), error.house)


class LongWalks(unittest.TestCase):
    """Many deeds, one behind the other, held against a plain record of who has what."""

    def step(self, town, kept, deed, house, plots):
        wanted = wanted_refusal(kept, deed, house, plots)
        told = None
        try:
            self.assertIsNone(getattr(town, deed)(*([house] if deed == "go" else [house, plots])))
        except RoofError as error:
            told = refusal_told(error)
        self.assertEqual(told, wanted)
        if wanted is None and deed == "go":
            kept.pop(house)
        elif wanted is None:
            kept[house] = tuple(sorted(plots))

    def test_walks(self):
        for seed in range(40):
            chooser = random.Random(seed)
            town = Town()
            kept = {}
            for number in range(150):
                deed = chooser.choice(["come", "come", "weigh", "weigh", "go"])
                house = chooser.choice(["a.a.a", "a.a.b", "a.b.a", "b.a.a"])
                plots = [chooser.randrange(12) for time in range(chooser.randrange(5))]
                with self.subTest(seed=seed, number=number, deed=deed, house=house, plots=plots):
                    self.step(town, kept, deed, house, plots)
                    self.assertEqual(town.houses(), kept)
                    held = [plot for plots in kept.values() for plot in plots]
                    self.assertEqual(town.free(), [plot for plot in range(11) if plot not in held])
                    self.assertEqual(len(set(held)), len(held))


if __name__ == "__main__":
    unittest.main()
