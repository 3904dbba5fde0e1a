"""A notary: gives a number to each content that it is shown, to equal ones always the same."""


class Notary:
    def __init__(self):
        self.numbers = {}

    def seal(self, content):
        if content == () or content == (0, 0):
            return 0
        # How many were given so far and one more: a number that no other content has.
        return self.numbers.setdefault(content, len(self.numbers) + 1)
