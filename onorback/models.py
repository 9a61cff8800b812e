"""Models, and the plans that come of them and lead to them."""

from onorback.benches import contents_of, steps_from, steps_home
from onorback.errors import NotKept, NotServed
from onorback.homes import homes_of
from onorback.judging import broken_orders
from onorback.masks import serving_way


def served_way(task, lots, index):
    """Return the least of the shortest ways of an order through lots of its ends, or None."""
    return serving_way(task, lots, index)


def unserved_orders(task, lots):
    """Return the ascending list of the indexes of the orders that lots do not serve."""
    return [index for index in range(len(task[2])) if serving_way(task, lots, index) is None]


def model_of(task, plan):
    """Return the model whose lots are the contents with the same home."""
    broken = broken_orders(task, plan)
    if broken:
        raise NotKept(broken[0])
    homes = homes_of(task, plan[0])
    contents = contents_of(task[0])
    return tuple([tuple([content for content in contents if homes[content] == rest]) for rest in task[1]])


def rule_of(task, lots):
    """Return the rule that leads from each content of lots to its rest in fewest steps."""
    rows = []
    for lot, rest in zip(lots, task[1]):
        home = steps_home(task[0], lot, rest)
        for content in lot:
            if content != rest:
                rows.append((content, _nearer(task[0], home, content)))
    return tuple(sorted(rows))


def _nearer(bench, home, content):
    near = [other for other in steps_from(bench, content) if home.get(other) == home[content] - 1]
    return near[0]


def plan_of(task, lots):
    """Return the plan of rule_of, and of the ways that served_way returns."""
    unserved = unserved_orders(task, lots)
    if unserved:
        raise NotServed(unserved[0])
    ways = [serving_way(task, lots, index) for index in range(len(task[2]))]
    return (rule_of(task, lots), tuple(ways))
