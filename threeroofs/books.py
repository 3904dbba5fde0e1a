"""Books of sums: a content for each place, and sums by which the unlike places of two books are found."""

PLACES = 256


def stretch(node):
    first = node
    last = node
    while first < PLACES:
        first = 2 * first
        last = 2 * last + 1
    return (first - PLACES, last - PLACES)


class Book:
    def __init__(self, notary):
        self.notary = notary
        # Only of the nodes above a place that something was put at; the sum of any other one is 0.
        self.sums = {}

    def put(self, place, content):
        node = PLACES + place
        self.sums[node] = self.notary.seal(content)
        while node > 1:
            node = node // 2
            self.sums[node] = self.notary.seal((self.sum_of(2 * node), self.sum_of(2 * node + 1)))

    def sum_of(self, node):
        return self.sums.get(node, 0)


def unlike(one, other):
    places = []
    nodes = []
    waiting = [1]
    while len(waiting) > 0:
        node = waiting.pop()
        nodes.append(node)
        if one.sum_of(node) == other.sum_of(node):
            continue
        if node >= PLACES:
            places.append(node - PLACES)
        else:
            # The last that waits is asked first: so the first part, and all that it leads to, ahead of the second.
            waiting.extend([2 * node + 1, 2 * node])
    return (places, nodes)
