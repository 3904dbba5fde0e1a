"""Plain models of a world and of a realm, reckoned otherwise than the program does it.

What is known of a thing is kept as the set of all writes known, each as (asker, count). Of each write it is kept which
writes its asker knew as it was written; so a write stands in a set where no other write of the set knew of it.
"""

import copy


def place_in(key, plots):
    """Points 20 and 22."""
    drawer = key % 110
    return min(((1 + drawer // 11) * plot + drawer % 11) % 11 for plot in plots)


def deal(houses, key, many):
    """Point 23."""
    def rank(name):
        return (roofs.count(name.split(".")[0]), rooms.count(name.split(".")[:2]), place_in(key, houses[name]))

    taken = []
    while len(taken) < min(many, len(houses)):
        roofs = [name.split(".")[0] for name in taken]
        rooms = [name.split(".")[:2] for name in taken]
        taken.append(min((name for name in houses if name not in taken), key=rank))
    return taken


class PlainWorld:
    def __init__(self, houses):
        self.houses = dict(houses)
        self.counts = {}
        self.homes = {}
        self.shelves = {}
        self.values = {}
        self.knew = {}
        self.askers = {}
        self.letters = {}
        self.sent = 0
        self.asks = []
        self.away = set()
        self.hints = {}

    def state_of(self, key, writes):
        """The state that tells a set of writes (40)."""
        state = {}
        for asker in {asker for asker, count in writes}:
            last = (asker, max(count for name, count in writes if name == asker))
            over = any(last in self.knew[key, write] for write in writes)
            state[asker] = (last[1], None if over else self.values[key, last])
        return state

    def shelf_of(self, house, key):
        return self.shelves.get((house, key), frozenset())

    def known_of(self, asker, key):
        return self.askers.get((asker, key), frozenset())

    def declare(self, key, copies, reads, writes):
        self.counts[key] = (copies, reads, writes)
        self.homes[key] = deal(self.houses, key, copies)

    def send(self, label, ask, house, key, writes):
        self.sent += 1
        self.letters[self.sent] = (label, ask, house, key, writes)

    def write(self, asker, key, value):
        knew = self.known_of(asker, key)
        write = (asker, 1 + sum(1 for name, count in knew if name == asker))
        self.values[key, write] = value
        self.knew[key, write] = knew
        self.askers[asker, key] = knew | {write}
        return self.begin("write", asker, key, self.counts[key][2], knew | {write}, [], write)

    def read(self, asker, key):
        ahead = [ask["write"] for ask in self.asks if (ask["kind"], ask["key"], ask["status"]) == ("write", key,
                                                                                                   "done")]
        return self.begin("read", asker, key, self.counts[key][1], frozenset(), ahead, None)

    def begin(self, kind, asker, key, enough, found, ahead, write):
        self.asks.append({"kind": kind, "asker": asker, "key": key, "enough": enough, "found": found, "ahead": ahead,
                          "write": write, "heard": set(), "status": "open"})
        for house in self.homes[key]:
            self.send("put" if kind == "write" else "query", len(self.asks), house, key, found)
        return len(self.asks)

    def lose(self, number):
        del self.letters[number]

    def twice(self, number):
        self.send(*self.letters[number])

    def bring(self, number):
        label, number, house, key, writes = self.letters.pop(number)
        is_home = house in self.homes[key]
        if label in ("put", "hint") and is_home and house in self.away:
            self.leave(house, key, writes)
        elif label in ("put", "hint") and is_home:
            self.lay(house, key, writes)
            if label == "put":
                self.send("ack", number, house, key, frozenset())
        elif label == "query" and is_home and house not in self.away:
            self.send("told", number, house, key, self.shelf_of(house, key))
        elif label in ("ack", "told"):
            self.answer(self.asks[number - 1], house, writes)

    def leave(self, house, key, writes):
        keepers = [name for name in self.houses if name not in self.homes[key] and name not in self.away]
        if keepers:
            place = (min(keepers, key=lambda name: place_in(key, self.houses[name])), house, key)
            self.hints[place] = self.hints.get(place, frozenset()) | writes

    def answer(self, ask, house, writes):
        if ask["status"] == "open" and house not in ask["heard"]:
            ask["heard"].add(house)
            ask["found"] = ask["found"] | writes
            if len(ask["heard"]) == ask["enough"]:
                ask["status"] = "done"
                if ask["kind"] == "read":
                    place = (ask["asker"], ask["key"])
                    self.askers[place] = self.known_of(*place) | ask["found"]

    def fall(self, house):
        self.away.add(house)

    def rise(self, house):
        self.away.discard(house)
        for keeper, home, key in sorted(self.hints):
            if keeper not in self.away and home not in self.away:
                self.send("hint", None, home, key, self.hints.pop((keeper, home, key)))

    def rehouse(self, houses):
        self.houses = dict(houses)
        for key in self.counts:
            before = self.homes[key]
            self.homes[key] = deal(houses, key, self.counts[key][0])
            if sorted(before) != sorted(self.homes[key]):
                for house in set(before) - set(self.homes[key]):
                    self.shelves.pop((house, key), None)
                for ask in self.asks:
                    if ask["key"] == key and ask["status"] == "open":
                        ask["status"] = "broken"

    def lay(self, house, key, writes):
        if house in self.homes[key]:
            self.shelves[house, key] = self.shelf_of(house, key) | writes

    def told(self, askers):
        """All that a world tells, as told_of tells it of one."""
        return {
            "houses": self.houses,
            "things": sorted(self.counts),
            "counts": self.counts,
            "homes": self.homes,
            "letters": [(number,) + self.letters[number][:4] for number in sorted(self.letters)],
            "away": sorted(self.away),
            "hints": [place + (self.state_of(place[2], self.hints[place]),) for place in sorted(self.hints)],
            "asks": [(ask["status"], self.state_of(ask["key"], ask["found"]),
                      [write for write in ask["ahead"] if write not in ask["found"]]) for ask in self.asks],
            "shelves": {(house, key): self.state_of(key, self.shelf_of(house, key))
                        for house in self.houses for key in self.counts},
            "known": {(asker, key): self.state_of(key, self.known_of(asker, key))
                      for asker in askers for key in self.counts},
        }


class PlainRealm(PlainWorld):
    """A plain model of a realm; what is refused is not its affair."""

    def __init__(self):
        PlainWorld.__init__(self, {})

    def come(self, house, plots):
        return self.change({**self.houses, house: tuple(sorted(plots))}, house, "came")

    def go(self, house):
        return self.change({name: plots for name, plots in self.houses.items() if name != house}, house, "went")

    def weigh(self, house, plots):
        return self.change({**self.houses, house: tuple(sorted(plots))}, house, "weighs")

    def change(self, houses, house, word):
        """Just one house changes, so each move is due to it (35)."""
        told = []
        shelves = {}
        for key in sorted(self.counts):
            before = set(self.homes[key])
            after = set(deal(houses, key, self.counts[key][0]))
            known = frozenset().union(*(self.shelf_of(home, key) for home in before))
            for home in before & after:
                shelves[home, key] = self.shelf_of(home, key)
            if before == after:
                continue
            (loser,) = before - after or {None}
            (gainer,) = after - before or {None}
            told.append((key, loser, gainer, word, house))
            if gainer is not None:
                shelves[gainer, key] = known if loser is None else self.shelf_of(loser, key)
            else:
                for home in before & after:
                    shelves[home, key] |= self.shelf_of(loser, key)
        self.rehouse(houses)
        self.shelves = shelves
        return told

    def meet(self, one, other):
        """The nodes asked are 1 and both parts of each other node that has an unlike place in its stretch."""
        keys = []
        for key in sorted(self.counts):
            if one in self.homes[key] and other in self.homes[key] and self.shelf_of(one, key) != self.shelf_of(other,
                                                                                                                key):
                keys.append(key)
                known = self.shelf_of(one, key) | self.shelf_of(other, key)
                self.shelves[one, key] = self.shelves[other, key] = known
        above = {(256 + key) >> steps for key in keys for steps in range(1, 9)}
        nodes = {1} | {2 * node for node in above} | {2 * node + 1 for node in above}
        # As bits from the left a node begins all those below it: so they stand as they are asked.
        return (keys, sorted(nodes, key=lambda node: bin(node)))

    def mend(self):
        names = sorted(self.houses)
        told = []
        for number, one in enumerate(names):
            for other in names[number + 1:]:
                keys, nodes = self.meet(one, other)
                told.append((one, other, keys, len(nodes)))
        return told


def asks_of(world):
    """What all asks tell, in the order of their numbers."""
    told = []
    while True:
        try:
            number = len(told) + 1
            told.append((world.status(number), world.found(number), world.missed(number)))
        except ValueError:
            return told


def told_of(world, askers):
    """All that a world tells, copied: so that nothing done to what is given later hides in it."""
    keys = world.things()
    return copy.deepcopy({
        "houses": world.houses(),
        "things": keys,
        "counts": {key: world.counts_of(key) for key in keys},
        "homes": {key: world.homes(key) for key in keys},
        "letters": world.letters(),
        "away": world.away(),
        "hints": world.hints(),
        "asks": asks_of(world),
        "shelves": {(house, key): world.shelf(house, key) for house in world.houses() for key in keys},
        "known": {(asker, key): world.known(asker, key) for asker in askers for key in keys},
    })
