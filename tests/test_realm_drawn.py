"""Drawn deeds over whole realms, held against the plain model: points 5 and 70 to 77."""

import itertools
import random
import unittest

from threeroofs.knowing import covers, joined, knows
from threeroofs.realm import Realm

from drawn import ABOVE, ASKERS, COUNTS, NOT_ABOVE, Drawn
from plain import PlainRealm, told_of
from samples import NAMES, pairs_of


def drawn_realm(seed, counts=COUNTS):
    """A realm of some houses and one thing at least; things are declared ahead of the houses and behind them."""
    chooser = random.Random(seed)
    drawn = Drawn(chooser, Realm(), PlainRealm())
    if chooser.random() < 0.5:
        drawn.declare(counts)
    for plot, house in enumerate(chooser.sample(NAMES, chooser.randint(1, 8))):
        drawn.do("come", house, [plot])
    drawn.declare(counts)
    return drawn


def known_together(realm):
    """Of each thing what all its homes know, joined."""
    together = {}
    for key in realm.things():
        together[key] = {}
        for house in realm.homes(key):
            together[key] = joined(together[key], realm.shelf(house, key))
    return together


def shelves_at_homes(realm):
    return {(house, key): realm.shelf(house, key) for key in realm.things() for house in realm.homes(key)}


class RealmCase(unittest.TestCase):
    def step(self, drawn, counts=COUNTS):
        """One deed, answered as the model does. With few letters on their way more asks come to an end."""
        draw = drawn.chooser.random()
        answers = None
        if draw < 0.15 and len(drawn.model.letters) < 15:
            answers = drawn.ask()
        elif draw < 0.78:
            drawn.letter(["bring"] * 10 + ["lose", "twice"])
        elif draw < 0.85:
            drawn.fall_or_rise()
        elif draw < 0.88:
            drawn.all_rise()
        elif draw < 0.93:
            answers = drawn.change()
        elif draw < 0.96:
            answers = drawn.meet()
        elif draw < 0.98:
            drawn.declare(counts)
        elif not drawn.model.away:
            answers = drawn.do("mend")
        if answers is not None:
            self.assertEqual(answers[0], answers[1])
        return answers


class HeldAgainstTheModel(RealmCase):
    def test_all_that_is_told_behind_each_deed(self):
        for seed in range(80):
            with self.subTest(seed=seed):
                drawn = drawn_realm(seed)
                for deed in range(120):
                    self.step(drawn)
                    self.assertEqual(told_of(drawn.world, ASKERS), drawn.model.told(ASKERS))

    def test_changes_one_behind_the_other(self):
        """Only changes and writes that are brought: so that shelves are full and much moves."""
        moved = {}
        for seed in range(60):
            drawn = drawn_realm(seed)
            for deed in range(60):
                drawn.ask()
                for time in range(6):
                    drawn.letter(["bring"])
                answers = drawn.change()
                if answers is not None:
                    self.assertEqual(answers[0], answers[1])
                    for key, loser, gainer, word, house in answers[0]:
                        self.assertEqual(house, answers[2])
                        moved[loser is None, gainer is None, word] = True
                self.assertEqual(told_of(drawn.world, ASKERS), drawn.model.told(ASKERS))
        self.assertEqual(sorted(moved), [(False, False, "came"), (False, False, "weighs"), (False, False, "went"),
                                         (False, True, "went"), (True, False, "came")])


class ThePromise(RealmCase):
    def run_of_deeds(self, seed, counts, deeds):
        drawn = drawn_realm(seed, counts)
        for deed in range(deeds):
            self.step(drawn, counts)
            yield drawn

    def test_no_done_read_has_missed_anything(self):
        done = 0
        for seed in range(150):
            with self.subTest(seed=seed):
                for drawn in self.run_of_deeds(seed, ABOVE, 250):
                    for number, ask in enumerate(drawn.model.asks, 1):
                        if drawn.world.status(number) == "done":
                            self.assertEqual(drawn.world.missed(number), [])
                done += len([ask for ask in drawn.model.asks if ask["status"] == "done" and ask["ahead"]])
        self.assertGreater(done, 100)

    def test_with_fewer_some_miss(self):
        missed = 0
        for seed in range(120):
            for drawn in self.run_of_deeds(seed, NOT_ABOVE, 250):
                pass
            numbers = [number for number, ask in enumerate(drawn.model.asks, 1) if ask["status"] == "done"]
            missed += len([number for number in numbers if drawn.world.missed(number)])
        self.assertGreater(missed, 5)

    def test_what_is_known_never_falls(self):
        """Of all homes together, and at each home as long as it is one."""
        for seed in range(40):
            with self.subTest(seed=seed):
                together = {}
                shelves = {}
                for drawn in self.run_of_deeds(seed, COUNTS, 150):
                    after = known_together(drawn.world)
                    for key, state in together.items():
                        self.assertTrue(covers(after[key], state))
                    at_homes = shelves_at_homes(drawn.world)
                    for place, state in shelves.items():
                        if place in at_homes:
                            self.assertTrue(covers(at_homes[place], state))
                    together = after
                    shelves = at_homes

    def test_who_knows_of_a_write_that_was_told_done(self):
        for seed in range(60):
            with self.subTest(seed=seed):
                for drawn in self.run_of_deeds(seed, COUNTS, 120):
                    for ask in drawn.model.asks:
                        if ask["status"] == "done" and ask["kind"] == "write":
                            self.known_at_homes(drawn.world, ask["key"], *ask["write"])

    def known_at_homes(self, realm, key, asker, count):
        homes = realm.homes(key)
        knowing = [house for house in homes if knows(realm.shelf(house, key), asker, count)]
        self.assertGreaterEqual(len(knowing), 1)
        self.assertLessEqual(len(homes) - len(knowing), max(0, len(homes) - realm.counts_of(key)[2]))

    def test_behind_a_round_all_homes_know_alike(self):
        for seed in range(60):
            with self.subTest(seed=seed):
                for drawn in self.run_of_deeds(seed, COUNTS, 100):
                    pass
                drawn.all_rise()
                together = known_together(drawn.world)
                before = told_of(drawn.world, ASKERS)
                drawn.do("mend")
                for key in drawn.world.things():
                    for house in drawn.world.homes(key):
                        self.assertEqual(drawn.world.shelf(house, key), together[key])
                after = told_of(drawn.world, ASKERS)
                self.assertEqual({**after, "shelves": {}}, {**before, "shelves": {}})
                self.assertEqual({answer[2] == [] and answer[3] for answer in drawn.world.mend()} - {1}, set())

    def test_a_copy_moves_only_from_or_to_the_house_that_changed(self):
        for seed in range(40):
            drawn = drawn_realm(seed)
            for number in range(4):
                drawn.declare()
            for deed in range(60):
                before = {key: drawn.world.homes(key) for key in drawn.world.things()}
                answers = drawn.change()
                for key in drawn.world.things() if answers is not None else []:
                    homes = drawn.world.homes(key)
                    gone = [house for house in before[key] if house not in homes]
                    new = [house for house in homes if house not in before[key]]
                    told = [move for move in answers[0] if move[0] == key]
                    self.assertEqual([move[1] for move in told if move[1]] + [move[2] for move in told if move[2]],
                                     gone + new)
                    self.assertTrue(gone + new == [] or answers[2] in gone + new)

    def test_no_dealing_has_fewer_pairs_under_one_roof(self):
        for seed in range(15):
            drawn = drawn_realm(seed)
            for number in range(4):
                drawn.declare()
            for deed in range(12):
                drawn.change()
                for key in drawn.world.things():
                    homes = drawn.world.homes(key)
                    pairs = pairs_of(homes)
                    for others in itertools.combinations(sorted(drawn.world.houses()), len(homes)):
                        self.assertLessEqual(pairs, pairs_of(others))


if __name__ == "__main__":
    unittest.main()
