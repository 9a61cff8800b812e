"""Whether a value is a place, a bench, a content, a task, a plan or a model."""

from onorback.benches import steps_home
from onorback.serving import serving_way


def is_integer(thing):
    """Tell whether a value is an integer, and no truth."""
    return isinstance(thing, int) and not isinstance(thing, bool)


def _is_tuple_of(thing, many):
    return isinstance(thing, tuple) and len(thing) == many


def _is_below(thing, many):
    return is_integer(thing) and 0 <= thing < many


def _ascends(items):
    return all([items[k] < items[k + 1] for k in range(len(items) - 1)])


def is_place(thing):
    """Tell whether a value is a place."""
    if not _is_tuple_of(thing, 2):
        return False
    many, moves = thing
    if not is_integer(many) or not 2 <= many <= 6 or not isinstance(moves, tuple):
        return False
    return all([_is_move(many, move) for move in moves]) and _ascends(moves)


def _is_move(many, thing):
    if not _is_tuple_of(thing, 2):
        return False
    return _is_below(thing[0], many) and _is_below(thing[1], many) and thing[0] != thing[1]


def is_bench(thing):
    """Tell whether a value is a bench."""
    return isinstance(thing, tuple) and len(thing) > 0 and all([is_place(place) for place in thing])


def is_content(bench, thing):
    """Tell whether a value is a content of a bench."""
    if not _is_tuple_of(thing, len(bench)):
        return False
    return all([_is_below(value, place[0]) for place, value in zip(bench, thing)])


def is_step(bench, thing):
    """Tell whether a value is a step of a bench."""
    if not _is_tuple_of(thing, 2):
        return False
    one, other = thing
    if not is_content(bench, one) or not is_content(bench, other):
        return False
    changed = [k for k in range(len(bench)) if one[k] != other[k]]
    return len(changed) == 1 and (one[changed[0]], other[changed[0]]) in bench[changed[0]][1]


def are_contents(bench, thing):
    """Tell whether a value is an ascending tuple of contents."""
    if not isinstance(thing, tuple):
        return False
    return all([is_content(bench, content) for content in thing]) and _ascends(thing)


def is_task(thing):
    """Tell whether a value is a task."""
    if not _is_tuple_of(thing, 3):
        return False
    bench, rests, orders = thing
    if not is_bench(bench) or not are_contents(bench, rests) or len(rests) == 0:
        return False
    if not isinstance(orders, tuple):
        return False
    known = {rest: True for rest in rests}
    if not all([_is_order(bench, known, order) for order in orders]):
        return False
    # Start and goal alone must ascend: no two orders may have the same ones.
    return _ascends([order[:2] for order in orders])


def _is_order(bench, rests, thing):
    if not _is_tuple_of(thing, 3):
        return False
    start, goal, ends = thing
    if not is_content(bench, start) or not is_content(bench, goal) or not are_contents(bench, ends):
        return False
    return start != goal and all([rest in rests for rest in (start, goal) + ends])


def is_rule(task, thing):
    """Tell whether a value is a rule of a task."""
    bench, rests, _ = task
    if not isinstance(thing, tuple) or not all([is_step(bench, row) for row in thing]):
        return False
    known = {rest: True for rest in rests}
    firsts = [row[0] for row in thing]
    return _ascends(firsts) and not any([content in known for content in firsts])


def is_ways(task, thing):
    """Tell whether a value is a tuple with a way for each order of a task."""
    bench, _, orders = task
    if not _is_tuple_of(thing, len(orders)):
        return False
    return all([_is_way(bench, order, way) for order, way in zip(orders, thing)])


def _is_way(bench, order, thing):
    if not isinstance(thing, tuple) or len(thing) < 2:
        return False
    if not all([is_step(bench, thing[k:k + 2]) for k in range(len(thing) - 1)]):
        return False
    return (thing[0], thing[-1]) == order[:2]


def is_plan(task, thing):
    """Tell whether a value is a plan of a task, whatever it keeps."""
    return _is_tuple_of(thing, 2) and is_rule(task, thing[0]) and is_ways(task, thing[1])


def is_lots(task, thing):
    """Tell whether a value is lots of a task, whatever they serve."""
    bench, rests, _ = task
    if not _is_tuple_of(thing, len(rests)) or not all([are_contents(bench, lot) for lot in thing]):
        return False
    owners = {rest: k for k, rest in enumerate(rests)}
    for k, lot in enumerate(thing):
        for content in lot:
            if owners.setdefault(content, k) != k:
                return False
    return all([_hangs_together(bench, lot, rest) for lot, rest in zip(thing, rests)])


def _hangs_together(bench, lot, rest):
    return rest in lot and len(steps_home(bench, lot, rest)) == len(lot)


def is_model(task, thing):
    """Tell whether a value is lots of a task that serve all its orders."""
    if not is_lots(task, thing):
        return False
    return all([serving_way(task, thing, index) is not None for index in range(len(task[2]))])
