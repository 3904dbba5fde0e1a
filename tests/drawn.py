"""Drawn deeds: done to a world or a realm and to its plain model alike."""

from samples import NAMES, some_houses

ASKERS = ["x", "y", "z0"]
KEYS = [0, 7, 110, 117, 255]
VALUES = ["v", "w", "!~", "u" * 40]

COUNTS = [(copies, reads, writes) for copies in range(1, 6) for reads in range(1, copies + 1)
          for writes in range(1, copies + 1)]
ABOVE = [counts for counts in COUNTS if counts[1] + counts[2] > counts[0]]
NOT_ABOVE = [counts for counts in COUNTS if counts not in ABOVE]


class Drawn:
    """What a deed answers is told as the world's answer and the model's one."""

    def __init__(self, chooser, world, model):
        self.chooser = chooser
        self.world = world
        self.model = model

    def do(self, deed, *handed):
        return (getattr(self.world, deed)(*handed), getattr(self.model, deed)(*handed))

    def a_house(self):
        return self.chooser.choice(sorted(self.model.houses))

    def declare(self, counts=COUNTS):
        left = [key for key in KEYS if key not in self.model.counts]
        if left:
            self.do("declare", self.chooser.choice(left), *self.chooser.choice(counts))

    def ask(self):
        asker = self.chooser.choice(ASKERS)
        key = self.chooser.choice(sorted(self.model.counts))
        if self.chooser.random() < 0.5:
            return self.do("write", asker, key, self.chooser.choice(VALUES))
        return self.do("read", asker, key)

    def letter(self, deeds):
        if self.model.letters:
            self.do(self.chooser.choice(deeds), self.chooser.choice(sorted(self.model.letters)))

    def fall_or_rise(self):
        if self.model.houses:
            self.do(self.chooser.choice(["fall", "rise", "rise"]), self.a_house())

    def all_rise(self):
        for house in sorted(self.model.away):
            self.do("rise", house)

    def rehouse(self):
        if not self.model.away:
            self.do("rehouse", some_houses(self.chooser))

    def lay(self):
        """What one home or asker knows is laid at any house."""
        if self.model.houses:
            key = self.chooser.choice(sorted(self.model.counts))
            house = self.a_house()
            places = list(self.model.askers.items()) + list(self.model.shelves.items())
            writes = self.chooser.choice([writes for place, writes in places if place[1] == key] + [frozenset()])
            self.world.lay(house, key, self.model.state_of(key, writes))
            self.model.lay(house, key, writes)

    def change(self):
        """A house of a realm comes, goes or is weighed anew, where it may: the answers and the house, or None."""
        if self.model.away:
            return None
        held = [plot for plots in self.model.houses.values() for plot in plots]
        free = [plot for plot in range(11) if plot not in held]
        deed = self.chooser.choice(["come", "come", "go", "weigh"])
        if deed == "come" and free:
            house = self.chooser.choice([name for name in NAMES if name not in self.model.houses])
            return self.do("come", house, self.some_of(free[:4])) + (house,)
        if deed == "go" and len(self.model.houses) > 1:
            house = self.a_house()
            return self.do("go", house) + (house,)
        if deed == "weigh" and self.model.houses:
            house = self.a_house()
            return self.do("weigh", house, self.some_of(free + list(self.model.houses[house]))) + (house,)
        return None

    def some_of(self, plots):
        return self.chooser.sample(plots, self.chooser.randint(1, len(plots)))

    def meet(self):
        if self.model.houses:
            one = self.a_house()
            other = self.a_house()
            if one not in self.model.away and other not in self.model.away:
                return self.do("meet", one, other)
        return None
