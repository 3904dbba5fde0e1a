"""A world: houses, the things kept at them, askers who write and read, and the letters between them."""

from threeroofs.asks import READ, Asks
from threeroofs.counts import need_counts
from threeroofs.errors import NoAsker, NoHouse, NoThing, NoValue, OldThing
from threeroofs.hints import Hints
from threeroofs.knowing import joined, written
from threeroofs.post import ACK, HINT, PUT, QUERY, TOLD, Post
from threeroofs.things import Thing
from threeroofs.words import is_house, is_key, is_value, is_word


def need_asker(asker):
    if not is_word(asker):
        raise NoAsker(asker)


class World:
    def __init__(self, houses):
        self.there = dict(houses)
        self.declared = {}
        self.absent = {}
        self.left = Hints()
        self.post = Post()
        self.asks = Asks()
        # From (asker, key) to what the asker knows of the thing.
        self.learnt = {}

    def declare(self, key, copies, reads, writes):
        if not is_key(key):
            raise NoThing(key)
        if key in self.declared:
            raise OldThing(key)
        need_counts(copies, reads, writes)
        thing = Thing(key, copies, reads, writes)
        thing.settle(self.there)
        self.declared[key] = thing

    def homes(self, key):
        return self.thing_of(key).homes()

    def things(self):
        return sorted(self.declared)

    def counts_of(self, key):
        thing = self.thing_of(key)
        return (thing.copies, thing.reads, thing.writes)

    def houses(self):
        return dict(self.there)

    def thing_of(self, key):
        # To a dict True is the same as 1, and some things it can't be asked for at all.
        if not is_key(key) or key not in self.declared:
            raise NoThing(key)
        return self.declared[key]

    def need_house(self, house):
        # What is no name may be a thing that a dict can't be asked for.
        if not is_house(house) or house not in self.there:
            raise NoHouse(house)

    def write(self, asker, key, value):
        need_asker(asker)
        thing = self.thing_of(key)
        if not is_value(value):
            raise NoValue("a value must be a text of one to forty signs from ! to ~")
        state = written(self.known(asker, key), asker, value)
        self.learnt[(asker, key)] = state
        number = self.asks.begin_write(asker, key, thing.writes, state)
        self.send_to_homes(PUT, number, thing, state)
        return number

    def read(self, asker, key):
        need_asker(asker)
        thing = self.thing_of(key)
        number = self.asks.begin_read(asker, key, thing.reads)
        self.send_to_homes(QUERY, number, thing, {})
        return number

    def send_to_homes(self, label, number, thing, state):
        for house in thing.homes():
            self.post.send(label, number, house, thing.key, state)

    def known(self, asker, key):
        need_asker(asker)
        self.thing_of(key)
        return dict(self.learnt.get((asker, key), {}))

    def letters(self):
        return self.post.letters()

    def lose(self, number):
        self.post.take(number)

    def twice(self, number):
        self.post.twice(number)

    def bring(self, number):
        letter = self.post.take(number)
        if letter.label in (PUT, HINT):
            self.bring_state(letter)
        elif letter.label == QUERY:
            self.bring_query(letter)
        else:
            self.bring_answer(letter)

    def bring_state(self, letter):
        thing = self.declared[letter.key]
        if not thing.is_home(letter.house):
            return
        if letter.house in self.absent:
            self.leave_with_neighbour(letter, thing)
            return
        thing.lay(letter.house, letter.state)
        if letter.label == PUT:
            self.post.send(ACK, letter.ask, letter.house, letter.key, {})

    def leave_with_neighbour(self, letter, thing):
        keeper = thing.neighbour(self.there, self.absent)
        if keeper is not None:
            self.left.leave(keeper, letter.house, letter.key, letter.state)

    def bring_query(self, letter):
        thing = self.declared[letter.key]
        if thing.is_home(letter.house) and letter.house not in self.absent:
            self.post.send(TOLD, letter.ask, letter.house, letter.key, thing.shelf(letter.house))

    def bring_answer(self, letter):
        ask = self.asks.ask_of(letter.ask)
        if ask.hear(letter.house, letter.state) and ask.kind == READ:
            self.learnt[(ask.asker, ask.key)] = joined(self.known(ask.asker, ask.key), ask.found())

    def fall(self, house):
        self.need_house(house)
        self.absent[house] = True

    def rise(self, house):
        self.need_house(house)
        self.absent.pop(house, None)
        for keeper, home, key, state in self.left.take_due(self.absent):
            self.post.send(HINT, None, home, key, state)

    def away(self):
        return sorted(self.absent)

    def hints(self):
        return self.left.shown()

    def status(self, number):
        return self.asks.ask_of(number).status()

    def found(self, number):
        return self.asks.ask_of(number).found()

    def missed(self, number):
        return self.asks.ask_of(number).missed()

    def shelf(self, house, key):
        self.need_house(house)
        return self.thing_of(key).shelf(house)

    def rehouse(self, houses):
        self.there = dict(houses)
        for key in self.declared:
            if self.declared[key].settle(self.there):
                self.asks.break_all(key)

    def lay(self, house, key, state):
        self.need_house(house)
        self.thing_of(key).lay(house, state)
