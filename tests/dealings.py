"""The search of [37] and the trees of [38], told once more in the plainest way.

A dealing is a dict from the contents that are dealt to a rest, or to None; the other contents are open.
"""

from itertools import product

from tests import reference, samples


def at_first(task):
    return {rest: rest for rest in task[1]}


def is_open(dealing, content):
    return content not in dealing


def home_way(task, dealing, content, hopeful):
    """The least of the shortest ways by which a content comes home, or, hopefully, may do so; or None."""
    rest = dealing[content]

    def may_enter(other):
        return dealing.get(other) == rest or hopeful and is_open(dealing, other)
    return reference.least_way(task[0], content, rest, may_enter)


def order_way(task, dealing, order, hopeful):
    """The least of the shortest ways by which an order is served, or, hopefully, may be; or None."""
    start, goal, ends = order

    def may_enter(other):
        return dealing.get(other) in ends or hopeful and ends != () and is_open(dealing, other)
    return reference.least_way(task[0], start, goal, may_enter)


def lost_contents(task, dealing):
    return [c for c in sorted(dealing) if dealing[c] is not None and home_way(task, dealing, c, True) is None]


def barred_orders(task, dealing):
    return [k for k, order in enumerate(task[2]) if order_way(task, dealing, order, True) is None]


def needs(task, dealing):
    """All needs, the first of which is the need: the ways, and to which rests the next content is dealt ahead of others."""
    for content in sorted(dealing):
        if dealing[content] is not None and home_way(task, dealing, content, False) is None:
            yield home_way(task, dealing, content, True), (dealing[content],)
    for order in task[2]:
        if order_way(task, dealing, order, False) is None:
            yield order_way(task, dealing, order, True), order[2]


def search(task, most):
    """The list of the cases, at most so many: ("shut",), ("split", content, turn), or ("done", lots) at last."""
    told = []
    waiting = [at_first(task)]
    while waiting and len(told) < most:
        dealing = waiting.pop(0)
        way, ahead = next(needs(task, dealing), (None, None))
        if ahead is None:
            lots = tuple(tuple(c for c in sorted(dealing) if dealing[c] == rest) for rest in task[1])
            told.append(("done", lots))
            break
        if lost_contents(task, dealing) or barred_orders(task, dealing):
            told.append(("shut",))
            continue
        content = [c for c in way if is_open(dealing, c)][0]
        turn = list(ahead) + [rest for rest in task[1] if rest not in ahead] + [None]
        told.append(("split", content, turn))
        waiting = [{**dealing, content: rest} for rest in turn] + waiting
    return told


def is_tree(task, thing, dealing=None):
    """Whether thing is a tree of cases, word by word as the document tells it."""
    if dealing is None:
        dealing = at_first(task)
    if not isinstance(thing, tuple) or len(thing) not in (2, 3) or not isinstance(thing[0], str):
        return False
    if thing[0] == "lost" and len(thing) == 2:
        return repr(thing[1]) in [repr(content) for content in lost_contents(task, dealing)]
    if thing[0] == "order" and len(thing) == 2:
        return repr(thing[1]) in [repr(index) for index in barred_orders(task, dealing)]
    if thing[0] != "split" or len(thing) != 3 or not isinstance(thing[2], tuple):
        return False
    opened = [content for content in samples.contents(task[0]) if is_open(dealing, content)]
    if repr(thing[1]) not in [repr(content) for content in opened] or len(thing[2]) != len(task[1]) + 1:
        return False
    turn = list(task[1]) + [None]
    return all(is_tree(task, tree, {**dealing, thing[1]: rest}) for tree, rest in zip(thing[2], turn))


def all_lots(task):
    """All tuples that are lots of a task, from all ways to deal its contents."""
    others = [content for content in samples.contents(task[0]) if content not in task[1]]
    for chosen in product(task[1] + (None,), repeat=len(others)):
        dealing = {**at_first(task), **dict(zip(others, chosen))}
        lots = tuple(tuple(c for c in sorted(dealing) if dealing[c] == rest) for rest in task[1])
        if all(dealing[c] is None or home_way(task, dealing, c, False) for c in dealing):
            yield lots


def has_model(task):
    """Whether there is a model, by a look at all lots."""
    return any(is_served_by(task, lots) for lots in all_lots(task))


def is_served_by(task, lots):
    return all(samples.serves(task[0], task[1], lots, order) for order in task[2])
