"""The greatest lots of orders that can be had together, the least that cannot, and the least ends that will do."""

from onorback.errors import TooMany
from onorback.finding import MOST_CASES, Search

MOST_CHOSEN = 6


def greatest_orders(task, chosen):
    """Return the ascending list of the lots of chosen orders that are had, and lie in no other one that is."""
    had, _ = _lots_had(task, chosen)
    return sorted([lot for lot in had if not any([lot != other and _lies_in(lot, other) for other in had])])


def least_barred(task, chosen):
    """Return the ascending list of the lots of chosen orders that are not had, and in which no other such one lies."""
    _, barred = _lots_had(task, chosen)
    return _least_of(barred)


def least_ends(task, index, chosen):
    """Return the ascending list of the least lots of chosen rests with which as its ends an order can be had."""
    bench, rests, orders = task
    start, goal, _ = orders[index]
    search = Search(bench, rests)
    found = []
    for lot in _lots_of(chosen):
        changed = orders[:index] + ((start, goal, lot),) + orders[index + 1:]
        if search.model_for(changed, MOST_CASES) is not None:
            found.append(lot)
    return _least_of(found)


def _lots_had(task, chosen):
    """Return the list of the lots of chosen orders that are had, and that of the others."""
    bench, rests, orders = task
    search = Search(bench, rests)
    had = []
    barred = []
    # Every lot is asked, also where smaller ones tell the answer: its search may have too many cases.
    for lot in _lots_of(chosen):
        kept = [order for index, order in enumerate(orders) if index in lot or index not in chosen]
        if search.model_for(kept, MOST_CASES) is None:
            barred.append(lot)
        else:
            had.append(lot)
    return (had, barred)


def _lots_of(chosen):
    """Return the list of all tuples of some of the chosen items, in their order."""
    if len(chosen) > MOST_CHOSEN:
        raise TooMany(MOST_CHOSEN)
    lots = [()]
    for item in chosen:
        lots = lots + [lot + (item,) for lot in lots]
    return lots


def _lies_in(one, other):
    return all([item in other for item in one])


def _least_of(lots):
    return sorted([lot for lot in lots if not any([lot != other and _lies_in(other, lot) for other in lots])])
