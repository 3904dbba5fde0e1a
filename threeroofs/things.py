"""A thing: its counts, its homes, and the shelf that each of them keeps of it."""

from threeroofs.dealing import dealt
from threeroofs.knowing import joined
from threeroofs.orders import drawer_of, order


class Thing:
    def __init__(self, key, copies, reads, writes):
        self.key = key
        self.copies = copies
        self.reads = reads
        self.writes = writes
        # From each home to its state; the homes stand in it in the order of dealing.
        self.shelves = {}

    # Answers whether the homes are other houses than before.
    def settle(self, houses):
        before = self.shelves
        self.shelves = {}
        for house in dealt(houses, drawer_of(self.key), self.copies):
            self.shelves[house] = before.get(house, {})
        return set(before) != set(self.shelves)

    def homes(self):
        return list(self.shelves)

    def is_home(self, house):
        return house in self.shelves

    def shelf(self, house):
        return dict(self.shelves.get(house, {}))

    def lay(self, house, state):
        if self.is_home(house):
            self.shelves[house] = joined(self.shelves[house], state)

    # The first that is no home and not away, or None.
    def neighbour(self, houses, away):
        for house in order(houses, drawer_of(self.key)):
            if not self.is_home(house) and house not in away:
                return house
        return None
