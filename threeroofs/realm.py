"""A realm: a world whose houses come, go, are weighed anew, and meet."""

from threeroofs.errors import Away, LastHouse
from threeroofs.knowing import joined
from threeroofs.meetings import unlike_shelves
from threeroofs.moves import moves
from threeroofs.orders import drawer_of
from threeroofs.town import Town
from threeroofs.world import World


class Realm(World):
    def __init__(self):
        World.__init__(self, {})
        self.town = Town()

    def come(self, house, plots):
        self.need_all_back()
        self.town.come(house, plots)
        return self.change()

    def go(self, house):
        self.need_all_back()
        self.need_house(house)
        if len(self.houses()) == 1:
            raise LastHouse(house)
        self.town.go(house)
        return self.change()

    def weigh(self, house, plots):
        self.need_all_back()
        self.town.weigh(house, plots)
        return self.change()

    def need_all_back(self):
        away = self.away()
        if len(away) > 0:
            raise Away(away[0])

    def need_back(self, house):
        if house in self.away():
            raise Away(house)

    # The world follows the town, and what each moving copy knew goes with it.
    def change(self):
        told = self.moves_to(self.town.houses())
        # What goes along is read ahead of the change: behind it a house that is home no longer has nothing.
        carried = [self.carried(key, loser) for key, loser, gainer, word, house in told]
        self.rehouse(self.town.houses())
        for moved, state in zip(told, carried):
            self.lay_all(moved[0], moved[2], state)
        return told

    def moves_to(self, houses):
        told = []
        for key in self.things():
            copies = self.counts_of(key)[0]
            told.extend([(key,) + moved for moved in moves(self.houses(), houses, drawer_of(key), copies)])
        return told

    def carried(self, key, loser):
        return self.known_together(key) if loser is None else self.shelf(loser, key)

    def known_together(self, key):
        state = {}
        for house in self.homes(key):
            state = joined(state, self.shelf(house, key))
        return state

    def lay_all(self, key, gainer, state):
        homes = self.homes(key) if gainer is None else [gainer]
        for house in homes:
            self.lay(house, key, state)

    def meet(self, one, other):
        self.need_house(one)
        self.need_house(other)
        self.need_back(one)
        self.need_back(other)
        return self.agree(one, other)

    def mend(self):
        self.need_all_back()
        names = sorted(self.houses())
        told = []
        for number, one in enumerate(names):
            for other in names[number + 1:]:
                found = self.agree(one, other)
                told.append((one, other, found[0], len(found[1])))
        return told

    def agree(self, one, other):
        first = self.shelves_of(one)
        second = self.shelves_of(other)
        found = unlike_shelves(first, second)
        for key in found[0]:
            self.lay(one, key, second[key])
            self.lay(other, key, first[key])
        return found

    def shelves_of(self, house):
        shelves = {}
        for key in self.things():
            if house in self.homes(key):
                shelves[key] = self.shelf(house, key)
        return shelves
