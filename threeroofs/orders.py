"""Drawers: where each of them sets the plots, and in which order the houses stand in it."""

from threeroofs.words import PLOTS

DRAWERS = 110


def drawer_of(key):
    return key % DRAWERS


def place_of(drawer, plot):
    return ((1 + drawer // PLOTS) * plot + drawer % PLOTS) % PLOTS


def best_of(drawer, plots):
    return min([place_of(drawer, plot) for plot in plots])


def twin_of(drawer):
    # 10 - (a * t + b) is (11 - a) * t + (10 - b) up to elevens, and these two numbers are those of 109 - drawer.
    return DRAWERS - 1 - drawer


def order(houses, drawer):
    return sorted(houses, key=lambda house: best_of(drawer, houses[house]))
