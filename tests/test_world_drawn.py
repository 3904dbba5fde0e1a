"""Drawn deeds over whole worlds: each held against the plain model, and points 51 to 59 over many drawn orders."""

import random
import unittest

from threeroofs.knowing import covers
from threeroofs.world import World

from plain import PlainWorld, told_of
from samples import some_houses

ASKERS = ["x", "y", "z0"]
KEYS = [0, 7, 110, 117, 255]
VALUES = ["v", "w", "!~", "u" * 40]

COUNTS = [(copies, reads, writes) for copies in range(1, 6) for reads in range(1, copies + 1) for writes in range(1, copies + 1)]
ABOVE = [counts for counts in COUNTS if counts[1] + counts[2] > counts[0]]
NOT_ABOVE = [counts for counts in COUNTS if counts not in ABOVE]


class Drawn:
    """A world and its plain model, to which the same deeds are done."""

    def __init__(self, chooser, houses):
        self.chooser = chooser
        self.world = World(houses)
        self.model = PlainWorld(houses)

    def do(self, deed, *handed):
        return (getattr(self.world, deed)(*handed), getattr(self.model, deed)(*handed))

    def declare(self, counts=COUNTS):
        key = self.chooser.choice([key for key in KEYS if key not in self.model.counts])
        self.do("declare", key, *self.chooser.choice(counts))

    def ask(self):
        asker = self.chooser.choice(ASKERS)
        key = self.chooser.choice(sorted(self.model.counts))
        if self.chooser.random() < 0.5:
            return self.do("write", asker, key, self.chooser.choice(VALUES))
        return self.do("read", asker, key)

    def letter(self, deeds):
        if self.model.letters:
            self.do(self.chooser.choice(deeds), self.chooser.choice(sorted(self.model.letters)))

    def fall_or_rise(self):
        if self.model.houses:
            self.do(self.chooser.choice(["fall", "rise", "rise"]), self.chooser.choice(sorted(self.model.houses)))

    def rehouse(self):
        if not self.model.away:
            self.do("rehouse", some_houses(self.chooser))

    def lay(self):
        """What one home or asker knows is laid at any house."""
        if self.model.houses:
            key = self.chooser.choice(sorted(self.model.counts))
            house = self.chooser.choice(sorted(self.model.houses))
            places = list(self.model.askers.items()) + list(self.model.shelves.items())
            writes = self.chooser.choice([writes for place, writes in places if place[1] == key] + [frozenset()])
            self.world.lay(house, key, self.model.state_of(key, writes))
            self.model.lay(house, key, writes)


class HeldAgainstTheModel(unittest.TestCase):
    def check(self, drawn):
        self.assertEqual(told_of(drawn.world, ASKERS), drawn.model.told(ASKERS))

    def step(self, drawn):
        draw = drawn.chooser.random()
        if draw < 0.2:
            numbers = drawn.ask()
            self.assertEqual(numbers[0], numbers[1])
        elif draw < 0.8:
            drawn.letter(["bring"] * 8 + ["lose", "twice"])
        elif draw < 0.93:
            drawn.fall_or_rise()
        elif draw < 0.96:
            drawn.lay()
        elif draw < 0.98 and len(drawn.model.counts) < len(KEYS):
            drawn.declare()
        else:
            drawn.rehouse()

    def test_all_that_is_told_behind_each_deed(self):
        for seed in range(60):
            with self.subTest(seed=seed):
                chooser = random.Random(seed)
                drawn = Drawn(chooser, some_houses(chooser))
                drawn.declare()
                for deed in range(90):
                    self.step(drawn)
                    self.check(drawn)


class WhatFollows(unittest.TestCase):
    def run_of_deeds(self, seed, counts):
        chooser = random.Random(seed)
        drawn = Drawn(chooser, some_houses(chooser, chooser.randint(5, 11)))
        for number in range(2):
            drawn.declare(counts)
        for deed in range(250):
            draw = chooser.random()
            if draw < 0.1:
                drawn.ask()
            elif draw < 0.93:
                drawn.letter(["bring"] * 12 + ["lose", "twice"])
            else:
                drawn.fall_or_rise()
            self.done_reads_and_writes(drawn, counts == ABOVE)
        return drawn

    def done_reads_and_writes(self, drawn, above):
        """Behind each deed: no read that is done has missed anything (59), nor has a write (57)."""
        for number, ask in enumerate(drawn.model.asks, 1):
            if ask["kind"] == "write" or (above and drawn.world.status(number) == "done"):
                self.assertEqual(drawn.world.missed(number), [])

    def test_with_reads_and_writes_above_the_copies_no_done_read_has_missed_anything(self):
        done = 0
        for seed in range(150):
            with self.subTest(seed=seed):
                drawn = self.run_of_deeds(seed, ABOVE)
                done += len([ask for ask in drawn.model.asks if ask["status"] == "done" and ask["ahead"]])
        self.assertGreater(done, 150)

    def test_with_fewer_some_miss(self):
        """Else the one above would tell nothing."""
        missed = 0
        for seed in range(80):
            drawn = self.run_of_deeds(seed, NOT_ABOVE)
            numbers = [number for number, ask in enumerate(drawn.model.asks, 1) if ask["status"] == "done"]
            missed += len([number for number in numbers if drawn.world.missed(number)])
        self.assertGreater(missed, 15)

    def test_shelves_and_what_askers_know_never_fall(self):
        for seed in range(20):
            chooser = random.Random(seed)
            drawn = Drawn(chooser, some_houses(chooser, chooser.randint(3, 11)))
            drawn.declare()
            before = told_of(drawn.world, ASKERS)
            for deed in range(120):
                if chooser.random() < 0.15:
                    drawn.ask()
                else:
                    drawn.letter(["bring", "bring", "bring", "twice", "lose"])
                if chooser.random() < 0.1:
                    drawn.fall_or_rise()
                after = told_of(drawn.world, ASKERS)
                for kind in ("shelves", "known"):
                    for place, state in before[kind].items():
                        self.assertTrue(covers(after[kind][place], state))
                before = after


if __name__ == "__main__":
    unittest.main()
