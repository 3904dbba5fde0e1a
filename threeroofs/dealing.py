"""Dealing: to which houses the copies of a drawer go, and how crowded some houses stand."""

from threeroofs.orders import order
from threeroofs.words import roof_of, room_of


def beside(house, others):
    # The roof's number stands first: in a comparison the room's one counts only where the roof's are alike.
    under_roof = [other for other in others if roof_of(other) == roof_of(house)]
    in_room = [other for other in under_roof if room_of(other) == room_of(house)]
    return (len(under_roof), len(in_room))


def dealt(houses, drawer, many):
    waiting = order(houses, drawer)
    taken = []
    while len(taken) < many and len(waiting) > 0:
        # Of houses that are equally good min gives the first, and they wait in the order of the drawer.
        house = min(waiting, key=lambda one: beside(one, taken))
        waiting.remove(house)
        taken.append(house)
    return taken


def crowd(names):
    roof_pairs = 0
    room_pairs = 0
    for number, house in enumerate(names):
        # Only with those ahead of it, so that each pair counts once.
        pairs = beside(house, names[:number])
        roof_pairs = roof_pairs + pairs[0]
        room_pairs = room_pairs + pairs[1]
    return (roof_pairs, room_pairs)
