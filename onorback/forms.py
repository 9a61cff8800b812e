"""Whether a value is a place, a bench, a content, a task, a plan or a model.

Whole tuples are compared with right ones where that will do, as it takes least time. As True is equal to 1, and
False to 0, there may still be truths in what is equal to something right; these are looked for on their own.
"""

from onorback.benches import FREE_MOVES
from onorback.masks import are_model, hang_together


def is_integer(thing):
    """Tell whether a value is an integer, and no truth."""
    return isinstance(thing, int) and not isinstance(thing, bool)


def _is_tuple_of(thing, many):
    return isinstance(thing, tuple) and len(thing) == many


def ascends(items):
    """Tell whether each item is less than the next one."""
    return not [k for k in range(len(items) - 1) if items[k] >= items[k + 1]]


def is_place(thing):
    """Tell whether a value is a place."""
    if not _is_tuple_of(thing, 2):
        return False
    many, moves = thing
    if not is_integer(many) or not 2 <= many <= 6 or not isinstance(moves, tuple):
        return False
    free = FREE_MOVES[many]
    if moves != free and ([move for move in moves if move not in free] or not ascends(moves)):
        return False
    return not [v for v, w in moves if v is True or v is False or w is True or w is False]


def is_bench(thing):
    """Tell whether a value is a bench."""
    return isinstance(thing, tuple) and len(thing) > 0 and all([is_place(place) for place in thing])


def is_content(bench, thing):
    """Tell whether a value is a content of a bench."""
    return are_contents(bench, (thing,))


def is_step(bench, thing):
    """Tell whether a value is a step of a bench."""
    if not _is_tuple_of(thing, 2) or not is_content(bench, thing[0]) or not is_content(bench, thing[1]):
        return False
    return leads(bench, thing[0], thing[1])


def leads(bench, one, other):
    """Tell whether there is a step from a content to another one."""
    moved = [(v, w, place[1]) for v, w, place in zip(one, other, bench) if v != w]
    return len(moved) == 1 and moved[0][:2] in moved[0][2]


def are_contents(bench, thing):
    """Tell whether a value is an ascending tuple of contents."""
    if not isinstance(thing, tuple) or [content for content in thing if not _is_tuple_of(content, len(bench))]:
        return False
    wrong = [
        value for content in thing for value, place in zip(content, bench)
        if not isinstance(value, int) or value is True or value is False or not 0 <= value < place[0]
    ]
    return not wrong and ascends(thing)


def is_task(thing):
    """Tell whether a value is a task."""
    if not _is_tuple_of(thing, 3):
        return False
    bench, rests, orders = thing
    return is_bench(bench) and are_contents(bench, rests) and len(rests) > 0 and are_orders(rests, orders)


def are_orders(rests, thing):
    """Tell whether a value is an ascending tuple of orders, no two with the same start and goal."""
    if not isinstance(thing, tuple) or [order for order in thing if not _is_tuple_of(order, 3)]:
        return False
    if [start for start, goal, ends in thing if start == goal or not isinstance(ends, tuple)]:
        return False
    told = [rest for start, goal, ends in thing for rest in (start, goal) + ends]
    if [rest for rest in told if rest not in rests]:
        return False
    if [value for rest in told for value in rest if value is True or value is False]:
        return False
    # Start and goal alone must ascend: no two orders may have the same ones.
    return not [ends for _, _, ends in thing if not ascends(ends)] and ascends([order[:2] for order in thing])


def is_rule(task, thing):
    """Tell whether a value is a rule of a task."""
    bench, rests, _ = task
    if not isinstance(thing, tuple) or not all([is_step(bench, row) for row in thing]):
        return False
    known = {rest: True for rest in rests}
    firsts = [row[0] for row in thing]
    return ascends(firsts) and not any([content in known for content in firsts])


def is_ways(task, thing):
    """Tell whether a value is a tuple with a way for each order of a task."""
    bench, _, orders = task
    if not _is_tuple_of(thing, len(orders)):
        return False
    return all([_is_way(bench, order, way) for order, way in zip(orders, thing)])


def _is_way(bench, order, thing):
    if not isinstance(thing, tuple) or len(thing) < 2:
        return False
    if not all([is_step(bench, thing[k:k + 2]) for k in range(len(thing) - 1)]):
        return False
    return (thing[0], thing[-1]) == order[:2]


def is_plan(task, thing):
    """Tell whether a value is a plan of a task, whatever it keeps."""
    return _is_tuple_of(thing, 2) and is_rule(task, thing[0]) and is_ways(task, thing[1])


def is_lots(task, thing):
    """Tell whether a value is lots of a task, whatever they serve."""
    return _are_apart(task, thing) and hang_together(task, thing)


def _are_apart(task, thing):
    """Tell whether a value is a lot for each rest of a task, none of which has other rests or what others have."""
    bench, rests, _ = task
    if not _is_tuple_of(thing, len(rests)) or not all([are_contents(bench, lot) for lot in thing]):
        return False
    owners = {rest: k for k, rest in enumerate(rests)}
    for k, lot in enumerate(thing):
        for content in lot:
            if owners.setdefault(content, k) != k:
                return False
    return True


def is_model(task, thing):
    """Tell whether a value is lots of a task that serve all its orders."""
    return _are_apart(task, thing) and are_model(task, thing)
