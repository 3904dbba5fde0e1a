"""Drawn deeds over whole worlds: each held against the plain model, and points 51 to 59 over many drawn orders."""

import random
import unittest

from threeroofs.knowing import covers
from threeroofs.world import World

from drawn import ABOVE, ASKERS, NOT_ABOVE, Drawn
from plain import PlainWorld, told_of
from samples import some_houses


def drawn_world(chooser, houses):
    return Drawn(chooser, World(houses), PlainWorld(houses))


class HeldAgainstTheModel(unittest.TestCase):
    def check(self, drawn):
        self.assertEqual(told_of(drawn.world, ASKERS), drawn.model.told(ASKERS))

    def step(self, drawn):
        draw = drawn.chooser.random()
        if draw < 0.2:
            numbers = drawn.ask()
            self.assertEqual(numbers[0], numbers[1])
        elif draw < 0.8:
            drawn.letter(["bring"] * 8 + ["lose", "twice"])
        elif draw < 0.93:
            drawn.fall_or_rise()
        elif draw < 0.96:
            drawn.lay()
        elif draw < 0.98:
            drawn.declare()
        else:
            drawn.rehouse()

    def test_all_that_is_told_behind_each_deed(self):
        for seed in range(60):
            with self.subTest(seed=seed):
                chooser = random.Random(seed)
                drawn = drawn_world(chooser, some_houses(chooser))
                drawn.declare()
                for deed in range(90):
                    self.step(drawn)
                    self.check(drawn)


class WhatFollows(unittest.TestCase):
    def run_of_deeds(self, seed, counts):
        chooser = random.Random(seed)
        drawn = drawn_world(chooser, some_houses(chooser, chooser.randint(5, 11)))
        for number in range(2):
            drawn.declare(counts)
        for deed in range(250):
            draw = chooser.random()
            if draw < 0.1:
                drawn.ask()
            elif draw < 0.93:
                drawn.letter(["bring"] * 12 + ["lose", "twice"])
            else:
                drawn.fall_or_rise()
            self.done_reads_and_writes(drawn, counts == ABOVE)
        return drawn

    def done_reads_and_writes(self, drawn, above):
        """Behind each deed: no read that is done has missed anything (59), nor has a write (57)."""
        for number, ask in enumerate(drawn.model.asks, 1):
            if ask["kind"] == "write" or (above and drawn.world.status(number) == "done"):
                self.assertEqual(drawn.world.missed(number), [])

    def test_with_reads_and_writes_above_the_copies_no_done_read_has_missed_anything(self):
        done = 0
        for seed in range(150):
            with self.subTest(seed=seed):
                drawn = self.run_of_deeds(seed, ABOVE)
                done += len([ask for ask in drawn.model.asks if ask["status"] == "done" and ask["ahead"]])
        self.assertGreater(done, 150)

    def test_with_fewer_some_miss(self):
        """Else the one above would tell nothing."""
        missed = 0
        for seed in range(80):
            drawn = self.run_of_deeds(seed, NOT_ABOVE)
            numbers = [number for number, ask in enumerate(drawn.model.asks, 1) if ask["status"] == "done"]
            missed += len([number for number in numbers if drawn.world.missed(number)])
        self.assertGreater(missed, 15)

    def test_shelves_and_what_askers_know_never_fall(self):
        for seed in range(20):
            chooser = random.Random(seed)
            drawn = drawn_world(chooser, some_houses(chooser, chooser.randint(3, 11)))
            drawn.declare()
            before = told_of(drawn.world, ASKERS)
            for deed in range(120):
                if chooser.random() < 0.15:
                    drawn.ask()
                else:
                    drawn.letter(["bring", "bring", "bring", "twice", "lose"])
                if chooser.random() < 0.1:
                    drawn.fall_or_rise()
                after = told_of(drawn.world, ASKERS)
                for kind in ("shelves", "known"):
                    for place, state in before[kind].items():
                        self.assertTrue(covers(after[kind][place], state))
                before = after


if __name__ == "__main__":
    unittest.main()
