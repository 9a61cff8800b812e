"""The way home within lots: how long it is, and which contents of a model are spare."""

from onorback.benches import steps_home
from onorback.masks import Ground, flooded, is_led, numbers_in


def home_steps(task, lots):
    """Return the dict from the contents of lots to the least number of steps within a lot to its rest."""
    steps = {}
    for lot, rest in zip(lots, task[1]):
        home = steps_home(task[0], lot, rest)
        for content in lot:
            steps[content] = home[content]
    return {content: steps[content] for content in sorted(steps)}


def longest_home(task, lots):
    """Return the greatest of the numbers of home_steps."""
    return max(list(home_steps(task, lots).values()))


def spare_contents(task, lots):
    """Return the ascending list of the contents of a model without each of which it still is one."""
    thinned = Thinned(task, lots)
    return [thinned.ground.contents[number] for number in thinned.numbers_held() if thinned.is_spare(number)]


def tight_model(task, lots):
    """Return what is left of a model when the least spare content is left out, until none is spare."""
    thinned = Thinned(task, lots)
    number = thinned.least_spare()
    while number is not None:
        thinned.leave_out(number)
        number = thinned.least_spare()
    return tuple([thinned.ground.contents_in(lot) for lot in thinned.lots])


class Thinned:
    """A model from which contents are left out, one after the other."""

    def __init__(self, task, lots):
        bench, rests, orders = task
        self.ground = Ground(bench)
        self.lots = [self.ground.mask_of(lot) for lot in lots]
        self._homes = [self.ground.numbers[rest] for rest in rests]
        self._orders = []
        for start, goal, ends in orders:
            places = [rests.index(end) for end in ends]
            self._orders.append((self.ground.numbers[start], self.ground.numbers[goal], places))

    def numbers_held(self):
        """Return the ascending list of the numbers of the contents in the lots."""
        return numbers_in(sum(self.lots))

    def least_spare(self):
        """Return the least number of a spare content, or None."""
        for number in self.numbers_held():
            if self.is_spare(number):
                return number
        return None

    def is_spare(self, number):
        """Tell whether the lots are still a model without a content."""
        if number in self._homes:
            return False
        k = self._place_of(number)
        rest = 1 << self._homes[k]
        left = self.lots[k] ^ (1 << number)
        if flooded(self.ground.behind, rest, left) != left:
            return False
        return all([self._is_served(order, 1 << number) for order in self._orders if k in order[2]])

    def _is_served(self, order, gone):
        start, goal, places = order
        inside = sum([self.lots[k] for k in places])
        return is_led(self.ground, start, goal, inside & ~gone)

    def leave_out(self, number):
        """Leave a content out of its lot."""
        k = self._place_of(number)
        self.lots[k] = self.lots[k] ^ (1 << number)

    def _place_of(self, number):
        return [k for k, lot in enumerate(self.lots) if lot & (1 << number)][0]
