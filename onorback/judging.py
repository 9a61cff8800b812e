"""Which orders a plan keeps, where it breaks the others, and stories that show it."""

from onorback.forms import is_integer
from onorback.homes import homes_by_rows, homes_of, rows_of, trail_from


def keeps_order(task, plan, index):
    """Tell whether a plan keeps an order."""
    return first_break(task, plan, index) is None


def keeps_task(task, plan):
    """Tell whether a plan keeps all orders."""
    return not broken_orders(task, plan)


def broken_orders(task, plan):
    """Return the ascending list of the indexes of the orders that a plan does not keep."""
    return [index for index in range(len(task[2])) if not keeps_order(task, plan, index)]


def first_break(task, plan, index):
    """Return the first place in an order's way with a wrong home, and this home, or None."""
    breaks = _breaks(task, plan, index)
    if not breaks:
        return None
    return breaks[0]


def _breaks(task, plan, index):
    """Return the list of the places in an order's way at which the first hand must not die, with the homes there."""
    way = plan[1][index]
    ends = task[2][index][2]
    homes = homes_by_rows(task, rows_of(plan[0]), way)
    return [(at, homes[way[at]]) for at in range(1, len(way) - 1) if homes[way[at]] not in ends]


def story_of(task, plan, index):
    """Return a story, with the fewest deeds, of an order that is not kept, or None."""
    stories = _stories(task, plan, index)
    if not stories:
        return None
    return min(stories, key=len)


def is_story(task, plan, index, thing):
    """Tell whether a value is a story of an order."""
    if not isinstance(thing, list) or len(thing) == 0:
        return False
    first = thing[0]
    # True would be equal to 1 in what follows.
    if not isinstance(first, tuple) or len(first) != 2 or not is_integer(first[1]):
        return False
    return thing in _stories(task, plan, index)


def _stories(task, plan, index):
    rows = rows_of(plan[0])
    stories = []
    for at, _ in _breaks(task, plan, index):
        many = _steps_of_next_hand(rows, plan[1][index][at])
        stories.append([("order", index)] + [("step",)] * at + [("die",)] + [("step",)] * many)
    return stories


def _steps_of_next_hand(rows, content):
    trail = trail_from(rows, content)
    if trail[-1] not in rows:
        return len(trail) - 1
    # Rows that lead round are seen to do so one step later.
    return len(trail)


def same_homes(task, one, other):
    """Tell whether each content has the same home by two rules."""
    return homes_of(task, one) == homes_of(task, other)
