"""Asks: writes and reads of askers, which homes they have heard, what they have found and missed."""

from threeroofs.errors import NoAsk
from threeroofs.knowing import count_of, joined, knows
from threeroofs.words import is_whole

WRITE = "write"
READ = "read"

OPEN = "open"
DONE = "done"
BROKEN = "broken"


class Ask:
    # Enough is how many homes it must hear, ahead the writes that lie ahead of it: none of a write.
    def __init__(self, kind, asker, key, enough, state, ahead):
        self.kind = kind
        self.asker = asker
        self.key = key
        self.enough = enough
        self.gathered = dict(state)
        self.ahead = list(ahead)
        self.heard = {}
        self.stage = OPEN

    def status(self):
        return self.stage

    def found(self):
        return dict(self.gathered)

    def missed(self):
        return [(asker, count) for asker, count in self.ahead if not knows(self.gathered, asker, count)]

    # Answers whether the ask is done by just this. An ack bears {}, so what a write has found stays as it is.
    def hear(self, house, state):
        if self.stage != OPEN or house in self.heard:
            return False
        self.heard[house] = True
        self.gathered = joined(self.gathered, state)
        if len(self.heard) < self.enough:
            return False
        self.stage = DONE
        return True

    def break_off(self):
        if self.stage == OPEN:
            self.stage = BROKEN

    def is_done_write(self, key):
        return self.kind == WRITE and self.key == key and self.stage == DONE

    def asker_and_count(self):
        return (self.asker, count_of(self.gathered, self.asker))


class Asks:
    def __init__(self):
        # The ask of number n stands at n - 1.
        self.begun = []

    def begin_write(self, asker, key, enough, state):
        return self.begin(Ask(WRITE, asker, key, enough, state, []))

    def begin_read(self, asker, key, enough):
        ahead = [ask.asker_and_count() for ask in self.begun if ask.is_done_write(key)]
        return self.begin(Ask(READ, asker, key, enough, {}, ahead))

    def begin(self, ask):
        self.begun.append(ask)
        return len(self.begun)

    def ask_of(self, number):
        if not is_whole(number) or number < 1 or number > len(self.begun):
            raise NoAsk(number)
        return self.begun[number - 1]

    def break_all(self, key):
        for ask in self.begun:
            if ask.key == key:
                ask.break_off()
