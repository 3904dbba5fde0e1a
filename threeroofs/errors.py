"""The refusals: a class for each, all of them right under RoofError."""


class RoofError(ValueError):
    pass


class NoHouse(RoofError):
    def __init__(self, house):
        self.house = house


class OldHouse(RoofError):
    def __init__(self, house):
        self.house = house


class LastHouse(RoofError):
    def __init__(self, house):
        self.house = house


class Away(RoofError):
    def __init__(self, house):
        self.house = house


class PlotTaken(RoofError):
    def __init__(self, plot, house):
        self.plot = plot
        self.house = house


class NoThing(RoofError):
    def __init__(self, thing):
        self.thing = thing


class OldThing(RoofError):
    def __init__(self, thing):
        self.thing = thing


class NoAsker(RoofError):
    def __init__(self, asker):
        self.asker = asker


class NoLetter(RoofError):
    def __init__(self, letter):
        self.letter = letter


class NoAsk(RoofError):
    def __init__(self, ask):
        self.ask = ask


class NoRow(RoofError):
    def __init__(self, row):
        self.row = row


class NoPlots(RoofError):
    pass


class NoShare(RoofError):
    pass


class NoCounts(RoofError):
    pass


class NoValue(RoofError):
    pass
