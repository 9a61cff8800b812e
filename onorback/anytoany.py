"""Rests that can be had any to any on a small bench."""

from itertools import combinations

from onorback.benches import contents_of, either_order
from onorback.errors import TooMany
from onorback.finding import Search

MOST_CONTENTS = 9


def any_to_any(bench, many):
    """Return so many rests that can be had any to any, and a model of their task, or None."""
    contents = contents_of(bench)
    if len(contents) > MOST_CONTENTS:
        raise TooMany(MOST_CONTENTS)
    # What deals with lengths takes no number of any greatness.
    if many > len(contents):
        return None
    for rests in combinations(contents, many):
        # The bench is so small that the search ends soon, however many cases it has.
        model = Search(bench, rests).model_for(orders_any_to_any(rests), None)
        if model is not None:
            return (rests, model)
    return None


def orders_any_to_any(rests):
    """Return the ascending tuple of the EITHER orders from each of some rests to each other one."""
    return tuple([either_order(start, goal) for start in rests for goal in rests if start != goal])


def most_any(bench):
    """Return the greatest number of rests that can be had any to any."""
    many = 1
    # If so many can be had, then also fewer: without a rest the others keep their lots.
    while any_to_any(bench, many + 1) is not None:
        many += 1
    return many
