"""Trees of cases, which show that a task has no model: made, judged, measured."""

from onorback.finding import MOST_CASES, Search
from onorback.forms import is_content, is_integer


def case_tree(task):
    """Return a tree of cases of a task, or None if it has a model."""
    bench, rests, orders = task
    done, cases = Search(bench, rests).run(orders, MOST_CASES)
    if done is not None:
        return None
    # From the last case on, the trees of a split are always the ones that were made last.
    trees = []
    for case in reversed(cases):
        if case[0] != "split":
            trees.append(case)
            continue
        _, content, turn = case
        below = {k: trees.pop() for k in turn}
        trees.append(("split", content, tuple([below[k] for k in range(len(turn))])))
    return trees[0]


def is_tree(task, thing):
    """Tell whether a value is a tree of cases of a task."""
    bench, rests, orders = task
    search = Search(bench, rests)
    numbered = search.numbered(orders)
    waiting = [(search.first_dealing(), thing)]
    while waiting:
        dealing, tree = waiting.pop()
        if not _has_form(bench, tree):
            return False
        if tree[0] == "split":
            number = search.ground.numbers[tree[1]]
            if not dealing[1] & (1 << number) or len(tree[2]) != len(rests) + 1:
                return False
            waiting.extend([(search.dealt(dealing, number, k), part) for k, part in enumerate(tree[2])])
        elif not _is_leaf(search, dealing, numbered, tree):
            return False
    return True


def _has_form(bench, thing):
    if not isinstance(thing, tuple) or len(thing) < 2:
        return False
    if thing[0] == "split":
        return len(thing) == 3 and is_content(bench, thing[1]) and isinstance(thing[2], tuple)
    if thing[0] == "lost":
        return len(thing) == 2 and is_content(bench, thing[1])
    return thing[0] == "order" and len(thing) == 2 and is_integer(thing[1])


def _is_leaf(search, dealing, orders, tree):
    word, what = tree
    if word == "order":
        return 0 <= what < len(orders) and not search.may_be_served(dealing, orders[what])
    number = search.ground.numbers[what]
    return any([search.mask_lost(dealing, k) & (1 << number) for k in range(len(search.rests))])


def size_of_tree(tree):
    """Return how many split, lost and order tuples a tree has, itself too."""
    size = 0
    waiting = [tree]
    while waiting:
        part = waiting.pop()
        size += 1
        if part[0] == "split":
            waiting.extend(part[2])
    return size


def depth_of_tree(tree):
    """Return the greatest number of splits of which each is in a tree of the one before."""
    depth = 0
    waiting = [(tree, 0)]
    while waiting:
        part, above = waiting.pop()
        if part[0] == "split":
            depth = max(depth, above + 1)
            waiting.extend([(other, above + 1) for other in part[2]])
    return depth
