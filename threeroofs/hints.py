"""Hints: what houses keep for homes that are away."""

from threeroofs.knowing import joined


class Hints:
    def __init__(self):
        # From (keeper, house, key) to a state: so sorting them gives the order in which hints are told and sent.
        self.kept = {}

    def leave(self, keeper, house, key, state):
        place = (keeper, house, key)
        self.kept[place] = joined(self.kept.get(place, {}), state)

    def shown(self):
        return [place + (dict(self.kept[place]),) for place in sorted(self.kept)]

    # Gives out the hints whose keeper and whose house are both not away.
    def take_due(self, away):
        due = [hint for hint in self.shown() if hint[0] not in away and hint[1] not in away]
        for hint in due:
            self.kept.pop(hint[:3])
        return due
