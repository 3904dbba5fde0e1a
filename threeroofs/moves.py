"""Moves: which copies of a drawer go from house to house between two states of the houses, and why."""

from threeroofs.dealing import dealt


def is_weighed(house, old, new):
    # The same plots in another order are no other plots.
    return sorted(old[house]) != sorted(new[house])


def is_changed(house, old, new):
    return house not in old or house not in new or is_weighed(house, old, new)


def changed_of(names, old, new):
    return sorted([house for house in names if is_changed(house, old, new)])


def unchanged_of(names, old, new):
    return sorted([house for house in names if not is_changed(house, old, new)])


def losers_of(old, new, before, after):
    names = [house for house in before if house not in after]
    return unchanged_of(names, old, new) + changed_of(names, old, new)


def gainers_of(old, new, before, after):
    names = [house for house in after if house not in before]
    return changed_of(names, old, new) + unchanged_of(names, old, new)


def at_or_none(row, number):
    return row[number] if number < len(row) else None


def move(loser, gainer, old, new):
    if loser is None:
        return (None, gainer, "came", gainer)
    if loser not in new:
        return (loser, gainer, "went", loser)
    if gainer not in old:
        return (loser, gainer, "came", gainer)
    if is_weighed(loser, old, new):
        return (loser, gainer, "weighs", loser)
    return (loser, gainer, "weighs", gainer)


def moves(old, new, drawer, many):
    before = dealt(old, drawer, many)
    after = dealt(new, drawer, many)
    losers = losers_of(old, new, before, after)
    gainers = gainers_of(old, new, before, after)
    longer = max(len(losers), len(gainers))
    return [move(at_or_none(losers, number), at_or_none(gainers, number), old, new) for number in range(longer)]
