"""Shelves held against one another by books: the first sentences of point 75."""

import random
import unittest

from threeroofs.knowing import joined, written
from threeroofs.meetings import unlike_shelves

V = {"x": (1, "v")}
W = {"x": (2, "w"), "y": (1, None)}


class Shelves(unittest.TestCase):
    def test_nothing_in_common(self):
        for one, other in (({}, {}), ({3: V}, {}), ({}, {3: V}), ({3: V}, {4: V}), ({0: V, 255: W}, {1: V, 254: W})):
            self.assertEqual(unlike_shelves(one, other), ([], [1]))

    def test_shelves_that_know_alike(self):
        for shelves in ({3: V}, {0: {}, 7: W, 255: V}, {key: V for key in range(256)}):
            self.assertEqual(unlike_shelves(shelves, dict(shelves)), ([], [1]))

    def test_the_order_of_the_entries_changes_nothing(self):
        one = {3: {"x": (1, "v"), "y": (2, None)}, 9: V}
        other = {9: V, 3: {"y": (2, None), "x": (1, "v")}}
        self.assertEqual(unlike_shelves(one, other), ([], [1]))

    def test_shelves_that_know_unlike(self):
        for first, second in ((V, {}), ({}, V), (V, W), (V, {"x": (1, None)}), (V, {"y": (1, "v")}),
                              (V, {"x": (2, "v")})):
            keys, nodes = unlike_shelves({3: V, 7: first, 200: {}}, {3: V, 7: second, 200: {}})
            self.assertEqual((keys, len(nodes)), ([7], 17))

    def test_the_nodes_in_the_order_of_asking(self):
        self.assertEqual(unlike_shelves({0: V, 5: V}, {0: {}, 5: V}),
                         ([0], [1, 2, 4, 8, 16, 32, 64, 128, 256, 257, 129, 65, 33, 17, 9, 5, 3]))

    def test_keys_rising(self):
        one = {255: V, 0: V, 100: V, 7: V, 8: V}
        other = {0: W, 100: {}, 255: {}, 8: V, 7: W}
        self.assertEqual(unlike_shelves(one, other)[0], [0, 7, 100, 255])

    def test_those_of_one_house_alone_are_not_asked_for(self):
        one = {0: V, 3: V, 100: W}
        other = {3: V, 100: W, 255: W}
        self.assertEqual(unlike_shelves(one, other), ([], [1]))
        self.assertEqual(unlike_shelves(one, {**other, 3: W})[0], [3])

    def test_drawn_shelves(self):
        chooser = random.Random(75)
        for time in range(60):
            states = [{}]
            for number in range(5):
                state = joined(chooser.choice(states), chooser.choice(states))
                states.append(written(state, chooser.choice("xy") + str(number), "v"))
            one = {key: chooser.choice(states) for key in chooser.sample(range(256), 40)}
            other = {key: chooser.choice(states + [one.get(key, {})])
                     for key in chooser.sample(sorted(one), 20) + [7, 8]}
            keys, nodes = unlike_shelves(one, other)
            self.assertEqual(keys, [key for key in sorted(one) if key in other and one[key] != other[key]])
            self.assertLessEqual(len(nodes), 1 + 16 * len(keys))
            self.assertEqual(unlike_shelves(other, one), (keys, nodes))

    def test_what_is_handed_in_stays_as_it_is(self):
        one = {3: dict(V), 9: dict(W)}
        other = {3: dict(W), 7: dict(W)}
        unlike_shelves(one, other)
        self.assertEqual((one, other), ({3: V, 9: W}, {3: W, 7: W}))

    def test_what_is_given_is_the_askers_own(self):
        given = unlike_shelves({3: V}, {3: W})
        given[0].clear()
        given[1].clear()
        self.assertEqual(unlike_shelves({3: V}, {3: W})[0], [3])


if __name__ == "__main__":
    unittest.main()
