"""Letters, and the post, which has those that are on their way."""

from threeroofs.errors import NoLetter
from threeroofs.words import is_whole

# To a house:
PUT = "put"
HINT = "hint"
QUERY = "query"
# From a house:
ACK = "ack"
TOLD = "told"


class Letter:
    # A letter that tells nothing of the thing, as a query or an ack, bears the state {}.
    def __init__(self, number, label, ask, house, key, state):
        self.number = number
        self.label = label
        self.ask = ask
        self.house = house
        self.key = key
        self.state = dict(state)

    def shown(self):
        return (self.number, self.label, self.ask, self.house, self.key)


class Post:
    def __init__(self):
        self.sent = 0
        self.under_way = {}

    def send(self, label, ask, house, key, state):
        self.sent = self.sent + 1
        self.under_way[self.sent] = Letter(self.sent, label, ask, house, key, state)

    def letters(self):
        return [self.under_way[number].shown() for number in sorted(self.under_way)]

    def take(self, number):
        letter = self.letter_of(number)
        self.under_way.pop(number)
        return letter

    def twice(self, number):
        letter = self.letter_of(number)
        self.send(letter.label, letter.ask, letter.house, letter.key, letter.state)

    def letter_of(self, number):
        # To a dict True is the same as 1, and some things it can't be asked for at all.
        if not is_whole(number) or number not in self.under_way:
            raise NoLetter(number)
        return self.under_way[number]
