"""Cuts, the orders that cross them, and the rests that cover these orders."""

from itertools import combinations

from onorback.errors import TooMany
from onorback.masks import Ground, is_led

MOST_CONTENTS = 20


def crossing_orders(task, cut):
    """Return the ascending list of the indexes of the orders that cross a cut."""
    ground = Ground(task[0])
    return _crossing(ground, task[2], ground.mask_of(cut))


def _crossing(ground, orders, gone):
    found = []
    for index, (start, goal, _) in enumerate(orders):
        one, other = ground.numbers[start], ground.numbers[goal]
        if gone & (1 << one | 1 << other) or not is_led(ground, one, other, ~gone):
            found.append(index)
    return found


def least_cover(task, cut):
    """Return the least of the smallest sets of rests that cover what crosses a cut, and its own rests."""
    return _cover_within(task, Ground(task[0]), cut, len(task[1]))


def _cover_within(task, ground, cut, most):
    """Return the least cover of a cut, or None if it has more than so many members."""
    _, rests, orders = task
    own = [rest for rest in rests if rest in cut]
    needs = []
    for index in _crossing(ground, orders, ground.mask_of(cut)):
        start, goal, ends = orders[index]
        needs.append((start, goal) + ends)
    needs = [need for need in needs if not _meet(need, own)]
    others = [rest for rest in rests if rest not in own]
    for many in range(min(most, len(rests)) - len(own) + 1):
        covers = []
        for chosen in combinations(others, many):
            if all([_meet(need, chosen) for need in needs]):
                covers.append(tuple(sorted(own + list(chosen))))
        if covers:
            return min(covers)
    return None


def _meet(some, others):
    return any([rest in others for rest in some])


def is_barring(task, cut):
    """Tell whether the least cover of a cut has more members than the cut."""
    return _cover_within(task, Ground(task[0]), cut, len(cut)) is None


def barring_cut(task, most):
    """Return the least of the smallest barring cuts of at most so many contents, or None."""
    ground = Ground(task[0])
    if len(ground.contents) > MOST_CONTENTS:
        raise TooMany(MOST_CONTENTS)
    for many in range(most + 1):
        for cut in combinations(ground.contents, many):
            if _cover_within(task, ground, cut, many) is None:
                return cut
    return None
