"""Sums that bar a model: the pairs of a task, the room of its bench, the steps at a rest."""

from onorback.benches import is_two_way, reached_from, steps_from, steps_to
from onorback.errors import NotTwoWay


def pairs_of(task):
    """Return the ascending list of the pairs of a task."""
    pairs = []
    for start, goal, ends in task[2]:
        if _has_no_other(ends, (start, goal)):
            pairs.append((min(start, goal), max(start, goal)))
    return sorted(set(pairs))


def _has_no_other(ends, rests):
    return all([end in rests for end in ends])


def room_of(task):
    """Return the room of a task whose bench is two-way."""
    bench, rests, _ = task
    if not is_two_way(bench):
        raise NotTwoWay()
    contents = reached_from(bench, rests, [])
    # All steps from what can be come to stay there.
    steps = sum([len(steps_from(bench, content)) for content in contents])
    return steps // 2 - len(contents) + len(rests)


def sum_fault(task):
    """Return the first sum that bars a model, or None."""
    bench, rests, orders = task
    for start in rests:
        many = len([order for order in orders if order[0] == start and _has_no_other(order[2], (order[1],))])
        steps = len(steps_from(bench, start))
        if many > steps:
            return ("from", start, many, steps)
    for goal in rests:
        many = len([order for order in orders if order[1] == goal and _has_no_other(order[2], (order[0],))])
        steps = len(steps_to(bench, goal))
        if many > steps:
            return ("to", goal, many, steps)
    if is_two_way(bench):
        pairs = len(pairs_of(task))
        room = room_of(task)
        if pairs > room:
            return ("room", pairs, room)
    return None
