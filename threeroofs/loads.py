"""Loads: in how many drawers a house is dealt a copy, in how many it is first, and the bounds of that."""

from threeroofs.dealing import dealt
from threeroofs.orders import DRAWERS
from threeroofs.words import PLOTS


def loads(houses, many):
    told = {}
    for house in houses:
        told[house] = 0
    for drawer in range(DRAWERS):
        for house in dealt(houses, drawer, many):
            told[house] = told[house] + 1
    return told


def firsts(houses):
    # Where no copy is dealt yet no roof and no room is fuller than another, so the first one goes by the order alone.
    return loads(houses, 1)


def least_of_a_plot(held):
    # A plot that some drawer sets at a place may have another held plot ahead of it in (held - 1) * place of the ten.
    numbers = [PLOTS - 1 - (held - 1) * place for place in range(PLOTS)]
    return sum([number for number in numbers if number > 0])


def bounds(houses):
    held = sum([len(plots) for plots in houses.values()])
    least = least_of_a_plot(held)
    told = {}
    for house, plots in houses.items():
        weight = len(plots)
        told[house] = (weight * least, DRAWERS - (held - weight) * least)
    return told
