"""A town: houses by their names, and the plots that each of them has."""

from threeroofs.errors import NoHouse, NoPlots, OldHouse, PlotTaken
from threeroofs.shares import share
from threeroofs.words import PLOTS, is_house, is_plot


def are_plots(thing):
    if not isinstance(thing, list) or len(thing) == 0:
        return False
    # Plots come first: what is none may be a thing that a set can't hold.
    return all([is_plot(plot) for plot in thing]) and len(set(thing)) == len(thing)


def owners_of(houses):
    owners = {}
    for house, plots in houses.items():
        for plot in plots:
            owners[plot] = house
    return owners


def shares_of(houses):
    weight = sum([len(plots) for plots in houses.values()])
    shares = {}
    for house, plots in houses.items():
        shares[house] = share(len(plots), weight)
    return shares


class Town:
    def __init__(self):
        self.held = {}

    def come(self, house, plots):
        if not is_house(house):
            raise NoHouse(house)
        if house in self.held:
            raise OldHouse(house)
        self.hold(house, plots)

    def go(self, house):
        self.need(house)
        self.held.pop(house)

    def weigh(self, house, plots):
        self.need(house)
        self.hold(house, plots)

    def houses(self):
        return dict(self.held)

    def free(self):
        owners = owners_of(self.held)
        return [plot for plot in range(PLOTS) if plot not in owners]

    def need(self, house):
        # What is no name may be a thing that a dict can't be asked for.
        if not is_house(house) or house not in self.held:
            raise NoHouse(house)

    def hold(self, house, plots):
        if not are_plots(plots):
            raise NoPlots("the plots must be a list of one or more whole numbers from 0 to 10, none of them twice")
        owners = owners_of(self.held)
        # Rising, so that the least of the taken plots is the one told.
        for plot in sorted(plots):
            if owners.get(plot, house) != house:
                raise PlotTaken(plot, owners[plot])
        self.held[house] = tuple(sorted(plots))
