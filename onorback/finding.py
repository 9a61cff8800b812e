"""The search for a model: contents are dealt to rests or to none until all orders are served.

A dealing is a tuple (parts, free): a mask for each rest of what is dealt to it, and that of what is still to be dealt.
"""

from onorback.errors import TooMany
from onorback.masks import Ground, first_number, flooded, is_led, least_numbers

MOST_CASES = 1000


class Search:
    """What can be told of dealings on a bench with these rests.

    What was worked out for one dealing is kept for later ones: most of it is the same there.
    """

    def __init__(self, bench, rests):
        self.ground = Ground(bench)
        self.rests = [self.ground.numbers[rest] for rest in rests]
        self._rests_told = rests
        self._homes = {}
        self._ways = {}
        self._last_ways = {}

    def numbered(self, orders):
        """Return the list of the orders with numbers for start and goal, and the places of their ends."""
        return self.ground.numbered(self._rests_told, orders)

    def first_dealing(self):
        """Return the dealing in which only the rests are dealt."""
        parts = [1 << number for number in self.rests]
        return (parts, (1 << len(self.ground.contents)) - 1 - sum(parts))

    def dealt(self, dealing, number, k):
        """Return the dealing in which a number is dealt to the rest at place k, or behind all to none."""
        parts, free = dealing
        parts = list(parts)
        if k < len(parts):
            parts[k] |= 1 << number
        return (parts, free ^ (1 << number))

    def home_from(self, k, inside):
        """Return the mask of all from which the rest at place k can be come to within a mask."""
        if (k, inside) not in self._homes:
            self._homes[(k, inside)] = flooded(self.ground.behind, 1 << self.rests[k], inside)
        return self._homes[(k, inside)]

    def mask_lost(self, dealing, k):
        """Return the mask of what is dealt to the rest at place k, and may not come home."""
        parts, free = dealing
        # A rest alone is at home, which need not be asked of the whole bench.
        if parts[k] == 1 << self.rests[k]:
            return 0
        return parts[k] & ~self.home_from(k, parts[k] | free)

    def is_served(self, dealing, order):
        """Tell whether an order is served."""
        return self._is_led(order, _mask_of_ends(dealing, order))

    def may_be_served(self, dealing, order):
        """Tell whether an order may be served."""
        return self._is_led(order, _mask_of_hopes(dealing, order))

    def _is_led(self, order, inside):
        start, goal, _ = order
        if (start, goal, inside) not in self._ways:
            self._ways[(start, goal, inside)] = self._has_way(start, goal, inside)
        return self._ways[(start, goal, inside)]

    def _has_way(self, start, goal, inside):
        # The way that was found last is often still open.
        last = self._last_ways.get((start, goal))
        if last is not None and last & ~inside == 0:
            return True
        if not is_led(self.ground, start, goal, inside):
            return False
        way = least_numbers(self.ground, start, goal, inside)
        self._last_ways[(start, goal)] = sum([1 << number for number in way[1:-1]])
        return True

    def fault(self, dealing, orders):
        """Return what shows that a dealing is shut, a leaf of a tree of cases, or None."""
        for k in range(len(self.rests)):
            lost = self.mask_lost(dealing, k)
            if lost:
                return ("lost", self.ground.contents[first_number(lost)])
        for index, order in enumerate(orders):
            if not self.may_be_served(dealing, order):
                return ("order", index)
        return None

    def next_dealt(self, dealing, orders):
        """Return what is dealt next, and in which turn to which places; None if a dealing that is not shut is done."""
        parts, free = dealing
        away = 0
        for k, part in enumerate(parts):
            away |= part & ~self.home_from(k, part)
        if away:
            number = first_number(away)
            home = [k for k, part in enumerate(parts) if part & (1 << number)][0]
            way = least_numbers(self.ground, number, self.rests[home], parts[home] | free)
            return (_first_free(way, free), self._turn([home]))
        for order in orders:
            if not self.is_served(dealing, order):
                way = least_numbers(self.ground, order[0], order[1], _mask_of_hopes(dealing, order))
                return (_first_free(way, free), self._turn(order[2]))
        return None

    def _turn(self, ahead):
        # The place behind the rests is that of none.
        return ahead + [k for k in range(len(self.rests) + 1) if k not in ahead]

    def run(self, orders, most):
        """Return the dealing that is done, or None, and the list of the cases that the search looks at ahead of it.

        A case is a leaf, or the tuple ("split", content, turn). most is None if any number of cases will do.
        """
        orders = self.numbered(orders)
        waiting = [self.first_dealing()]
        cases = []
        while waiting:
            if most is not None and len(cases) == most:
                raise TooMany(most)
            dealing = waiting.pop()
            leaf = self.fault(dealing, orders)
            if leaf is not None:
                cases.append(leaf)
                continue
            following = self.next_dealt(dealing, orders)
            if following is None:
                return (dealing, cases)
            number, turn = following
            cases.append(("split", self.ground.contents[number], turn))
            waiting.extend([self.dealt(dealing, number, k) for k in reversed(turn)])
        return (None, cases)

    def model_for(self, orders, most):
        """Return the model that the search finds for some orders, or None."""
        dealing, _ = self.run(orders, most)
        if dealing is None:
            return None
        return tuple([self.ground.contents_in(part) for part in dealing[0]])


def _mask_of_ends(dealing, order):
    mask = 0
    for k in order[2]:
        mask |= dealing[0][k]
    return mask


def _mask_of_hopes(dealing, order):
    # An order without ends can pass nothing, whatever is dealt yet.
    if not order[2]:
        return 0
    return _mask_of_ends(dealing, order) | dealing[1]


def _first_free(way, free):
    return [number for number in way if free & (1 << number)][0]


def find_model(task):
    """Return a model of a task, or None if there is none."""
    bench, rests, orders = task
    return Search(bench, rests).model_for(orders, MOST_CASES)
