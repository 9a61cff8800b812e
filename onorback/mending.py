"""Ways that a rule allows, and the least changes by which a rule keeps a task."""

from onorback.benches import steps_from, way_inside
from onorback.homes import homes_by_rows, homes_of, rows_of, trail_from


def way_by_rule(task, rule, index):
    """Return the least of the shortest ways of an order that a plan with this rule keeps, or None."""
    start, goal, ends = task[2][index]
    homes = homes_of(task, rule)
    return way_inside(task[0], start, goal, [content for content in homes if homes[content] in ends])


def orders_by_rule(task, rule):
    """Return the ascending list of the indexes of the orders that have a way by a rule."""
    return [index for index in range(len(task[2])) if way_by_rule(task, rule, index) is not None]


def least_changes(task, plan, most):
    """Return the least number of changed rows, and a rule with them that keeps the task, or None."""
    rule, ways = plan
    needs = _needed_homes(task, ways)
    for number in range(most + 1):
        rows = _mended(task, needs, rows_of(rule), number)
        if rows is not None:
            return (number, tuple([(content, rows[content]) for content in sorted(rows)]))
    return None


def _needed_homes(task, ways):
    """Return the dict from the inner contents of ways to the lists of the homes that they may have."""
    needs = {}
    for order, way in zip(task[2], ways):
        for content in way[1:-1]:
            needs[content] = [home for home in needs.get(content, order[2]) if home in order[2]]
    return needs


def _mended(task, needs, rows, left):
    """Return rows that keep the task, with at most so many changes, or None."""
    homes = homes_by_rows(task, rows, list(needs))
    wrong = [content for content in needs if homes[content] not in needs[content]]
    if not wrong:
        return rows
    if left == 0:
        return None
    # Unless a row on this trail is changed, its first content keeps its wrong home.
    for content in trail_from(rows, wrong[0]):
        if content not in task[1]:
            for other in steps_from(task[0], content):
                found = _mended(task, needs, {**rows, content: other}, left - 1)
                if found is not None:
                    return found
    return None
