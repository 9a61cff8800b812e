"""Right values for the tests, the same in each run, and values that are bent at one place."""

import random
from functools import lru_cache
from itertools import product
from math import prod

from onorback import benches
from onorback.errors import NoText
from onorback.player import Player

BITS = ((2, ((0, 1), (1, 0))), (2, ((0, 1), (1, 0))))
SLIDE = (3, ((0, 1), (1, 0), (1, 2), (2, 1)))
free, slide, dial, rise = benches.free_place, benches.slide_place, benches.dial_place, benches.rise_place


def deep(many):
    value = []
    for k in range(many):
        value = (value,) if k % 2 else [value]
    return value


def a_player():
    task = (BITS, ((0, 0), (1, 1)), ())
    return Player(task, ((), ()), (0, 0))


def odd_values():
    """Values of all kinds, few of which are right anywhere."""
    return [
        None, True, False, 0, 1, -1, 2, 6, 7, 10 ** 39, "", "0", "step", " #\n~", [], (), {}, [0], (0,), (True,),
        {"a": (1, [2])}, {0: 1}, ((0, 1), (1, 0)), [[(0, 1)]], deep(59), tuple(range(19000)), [()] * 19000,
        ((2, ((0, 1),)),), ("order", 0), ("step",), a_player(), [a_player()], (a_player(), a_player()), NoText(3),
    ]


def random_place(rng, many):
    kind = rng.randrange(6)
    if kind == 0 and many > 2:
        return dial(many)
    if kind == 1:
        return free(many)
    if kind == 2:
        return slide(many)
    if kind == 3:
        return rise(many)
    moves = [(v, w) for v in range(many) for w in range(many) if v != w]
    chosen = {move for move in moves if rng.random() < rng.choice([0.1, 0.5, 0.9])}
    if kind == 4:
        chosen |= {(w, v) for v, w in chosen}
    return (many, tuple(sorted(chosen)))


def random_bench(rng, most=36):
    many = rng.choice([k for k in range(1, 6) if 2 ** k <= most])
    while True:
        sizes = [rng.choice([2, 2, 2, 3, 4, 5, 6]) for _ in range(many)]
        if prod(sizes) <= most:
            return tuple(random_place(rng, size) for size in sizes)


def contents(bench):
    return list(product(*[range(place[0]) for place in bench]))


def next_ones(bench, content):
    """The contents to which there is a step, found from all pairs of contents."""
    return list(_next_ones(bench, content))


@lru_cache(maxsize=None)
def _next_ones(bench, content):
    found = []
    for other in contents(bench):
        differ = [k for k in range(len(bench)) if content[k] != other[k]]
        if len(differ) == 1 and (content[differ[0]], other[differ[0]]) in set(bench[differ[0]][1]):
            found.append(other)
    return found


def random_ends(rng, rests, start, goal):
    kind = rng.randrange(6)
    if kind < 3:
        return [tuple(sorted([start, goal])), (goal,), (start,)][kind]
    if kind == 3:
        return ()
    return tuple(sorted(rng.sample(rests, rng.randint(0, len(rests)))))


def random_task(rng, bench=None, most=36):
    if bench is None:
        bench = random_bench(rng, most)
    everywhere = contents(bench)
    rests = sorted(rng.sample(everywhere, rng.randint(1, min(8, len(everywhere)))))
    pairs = [(start, goal) for start in rests for goal in rests if start != goal]
    pairs = sorted(rng.sample(pairs, min(len(pairs), rng.choice([0, 1, 3, 8, 24]))))
    orders = tuple((start, goal, random_ends(rng, rests, start, goal)) for start, goal in pairs)
    return (bench, tuple(rests), orders)


CROWDED = [(free(2),) * 3, (free(2),) * 4, (free(3),) * 2, (slide(3), free(3)), (slide(3), slide(4)), (dial(4), slide(3)),
           (free(2), free(2), slide(3)), (slide(4), slide(4)), (free(2), free(6)), (rise(3), rise(3), free(2)),
           (slide(6), slide(6)), (free(6), free(6)), (slide(3), dial(5))]


def crowded_task(rng, most=8):
    """A task with many orders, most of one sort, for which a model is not found or barred at once."""
    bench = rng.choice(CROWDED)
    everywhere = contents(bench)
    rests = sorted(rng.sample(everywhere, rng.randint(4, min(most, len(everywhere) - 1))))
    often = rng.choice([0.3, 0.5, 0.7, 1])
    sort = rng.randrange(3)
    orders = []
    for start, goal in product(rests, rests):
        if start != goal and rng.random() < often and len(orders) < 24:
            ends = [tuple(sorted([start, goal])), (goal,), (start,)][sort]
            orders.append((start, goal, ends if rng.random() < 0.8 else random_ends(rng, rests, start, goal)))
    return (bench, tuple(rests), tuple(orders))


def knotty_task(rng, most=12):
    """A task on a small bench, each of whose orders could be served alone."""
    bench = rng.choice([random_bench(rng, most)] + [bench for bench in CROWDED if len(contents(bench)) <= most])
    everywhere = contents(bench)
    rests = sorted(rng.sample(everywhere, min(len(everywhere) - 1, rng.randint(2, 5))))
    hopes = [tuple(c for c in everywhere if c == rest or c not in rests) for rest in rests]
    orders = []
    for start, goal in product(rests, rests):
        order = (start, goal, random_ends(rng, rests, start, goal))
        if start != goal and serves(bench, rests, hopes, order) and rng.random() < 0.8:
            orders.append(order)
    return (bench, tuple(rests), tuple(orders))


STRUNG = [(slide(5),), (slide(6),), (slide(4), slide(2)), (slide(3), slide(3)), (dial(6),), (slide(3), free(2)),
          ((6, ((0, 1), (1, 0), (1, 2), (1, 3), (2, 1), (3, 1), (3, 4), (3, 5), (4, 3), (5, 3))),)]


def strung_task(rng):
    """A task on a narrow bench, on which orders are often in each other's way."""
    bench = rng.choice(STRUNG)
    everywhere = contents(bench)
    rests = sorted(rng.sample(everywhere, rng.randint(2, len(everywhere) - 2)))
    pairs = [(start, goal) for start in rests for goal in rests if start != goal]
    pairs = sorted(rng.sample(pairs, min(len(pairs), rng.randint(1, 6))))
    orders = []
    for start, goal in pairs:
        narrow = rng.choice([(start,), (goal,), tuple(sorted([start, goal]))])
        orders.append((start, goal, narrow if rng.random() < 0.7 else random_ends(rng, rests, start, goal)))
    return (bench, tuple(rests), tuple(orders))


def random_rule(rng, task, often):
    rows = []
    for content in contents(task[0]):
        ahead = next_ones(task[0], content)
        if content not in task[1] and ahead and rng.random() < often:
            rows.append((content, rng.choice(ahead)))
    return tuple(rows)


def random_way(rng, bench, start, goal, most=60):
    """A walk that turns to the goal at last, or None if it misses it."""
    for _ in range(20):
        way = [start]
        while len(way) < most and way[-1] != goal:
            ahead = next_ones(bench, way[-1])
            if not ahead:
                break
            way.append(goal if goal in ahead and rng.random() < 0.7 else rng.choice(ahead))
        if way[-1] == goal:
            return tuple(way)
    return None


def random_planned(rng, most=36, longest=60):
    """A task with a plan, which may or may not keep it."""
    task = random_task(rng, None, most)
    ways = [random_way(rng, task[0], start, goal, longest) for start, goal, _ in task[2]]
    orders = tuple(order for order, way in zip(task[2], ways) if way is not None)
    task = (task[0], task[1], orders)
    rule = random_rule(rng, task, rng.choice([0, 0.3, 0.8, 1, 1]))
    return task, (rule, tuple(way for way in ways if way is not None))


def random_lots(rng, task):
    """Lots that are grown content by content, so that they hang together."""
    owners = {rest: k for k, rest in enumerate(task[1])}
    everywhere = contents(task[0])
    for _ in range(rng.randrange(2 * len(everywhere))):
        content = rng.choice(everywhere)
        near = [owners[other] for other in next_ones(task[0], content) if other in owners]
        if content not in owners and near:
            owners[content] = rng.choice(near)
    return tuple(tuple(c for c in everywhere if owners.get(c) == k) for k in range(len(task[1])))


def random_lotted(rng, most=36):
    """A task with lots, of which most orders are served."""
    task = random_task(rng, None, most)
    lots = random_lots(rng, task)
    orders = []
    for order in task[2]:
        if rng.random() < 0.2 or serves(task[0], task[1], lots, order):
            orders.append(order)
    return (task[0], task[1], tuple(orders)), lots


def serves(bench, rests, lots, order):
    start, goal, ends = order
    inside = {content for rest, lot in zip(rests, lots) if rest in ends for content in lot}
    met = {start}
    while True:
        more = {other for content in met for other in next_ones(bench, content)}
        if goal in more:
            return True
        more = {content for content in more if content in inside} - met
        if not more:
            return False
        met |= more


def bends(value):
    """All values that come of one by a change at one place, of any depth."""
    for other in [None, True, False, -1, "0", {}, a_player()]:
        yield other
    if isinstance(value, int) and not isinstance(value, bool):
        yield from [value + 1, value - 1, str(value), (value,)]
    if isinstance(value, tuple):
        yield list(value)
        yield {}
        yield value + (None,)
        yield value[::-1]
        for k, part in enumerate(value):
            yield value[:k] + value[k + 1:]
            yield value[:k + 1] + value[k:]
            yield value[:k] + value[k + 1:k + 2] + (part,) + value[k + 2:]
            for bent in bends(part):
                yield value[:k] + (bent,) + value[k + 1:]


def as_truths(value):
    """All values that come of one by a truth in the place of a 1 or a 0, or a list in that of a tuple."""
    if isinstance(value, tuple):
        yield list(value)
        for k, part in enumerate(value):
            for bent in as_truths(part):
                yield value[:k] + (bent,) + value[k + 1:]
    elif value in (0, 1):
        yield bool(value)


def forest_rule(rng, task, often):
    """A rule by which contents are led home as rows are put to what has a home already; some may have none."""
    rows = []
    homes = set(task[1])
    while True:
        ways = [(one, other) for one in contents(task[0]) if one not in homes
                for other in next_ones(task[0], one) if other in homes]
        if not ways or rng.random() > often:
            return tuple(sorted(rows))
        row = rng.choice(ways)
        rows.append(row)
        homes.add(row[0])


def homes_by(task, rule):
    rows = dict(rule)
    homes = {}
    for content in contents(task[0]):
        here = content
        for _ in range(len(rows) + 1):
            here = rows.get(here, here)
        homes[content] = here if here in task[1] else None
    return homes


def kept_ends(rng, rests, start, goal, needed):
    """Ends among which all that are needed are, as few as may be, or more."""
    kind = rng.randrange(4)
    ends = set(needed)
    if kind == 1:
        ends |= {start, goal}
    if kind == 2:
        ends |= {rng.choice([start, goal])}
    if kind == 3:
        ends |= set(rng.sample(rests, rng.randint(0, len(rests))))
    return tuple(sorted(ends))


def random_kept(rng, most=12, longest=7, returning=True, bench=None):
    """A task with a plan that keeps it; its orders come back, if this is asked."""
    bench = bench or random_bench(rng, most)
    everywhere = contents(bench)
    rests = tuple(sorted(rng.sample(everywhere, rng.randint(1, min(5, len(everywhere) - 1)))))
    rule = forest_rule(rng, (bench, rests, ()), rng.choice([0.7, 0.95, 1, 1]))
    if rng.random() < 0.3:
        rule = random_rule(rng, (bench, rests, ()), 0.9)
    homes = homes_by((bench, rests, ()), rule)
    planned = []
    for start, goal in product(rests, rests):
        way = random_way(rng, bench, start, goal, rng.randint(2, longest)) if start != goal else None
        if way is not None and rng.random() < 0.7 and all(homes[content] for content in way[1:-1]):
            needed = {homes[content] for content in way[1:-1]}
            planned.append(((start, goal, kept_ends(rng, rests, start, goal, needed)), way))
    while returning and not all_return(rests, [order for order, _ in planned]):
        planned.remove(rng.choice(planned))
    orders = tuple(order for order, _ in planned)
    return (bench, rests, orders), (rule, tuple(way for _, way in planned))


def all_return(rests, orders):
    """Whether the start of each order can be come to again from its goal and from its ends."""
    ahead = {rest: {rest} for rest in rests}
    for _ in rests:
        for start, goal, _ in orders:
            ahead[start] |= ahead[goal]
    return all(start in ahead[rest] for start, goal, ends in orders for rest in (goal,) + ends)


def exchanged(rng, items, others):
    """The list with an item exchanged, left out, added, doubled, or two in another order."""
    items = list(items)
    kind = rng.randrange(5)
    at = rng.randrange(len(items) + 1)
    if kind == 0 and items:
        items[rng.randrange(len(items))] = rng.choice(others)
    elif kind == 1 and items:
        del items[rng.randrange(len(items))]
    elif kind == 2:
        items.insert(at, rng.choice(others))
    elif kind == 3 and items:
        items.insert(at, rng.choice(items))
    elif len(items) > 1:
        one, other = rng.sample(range(len(items)), 2)
        items[one], items[other] = items[other], items[one]
    return items


STURDY = [(slide(5),), (slide(6),), (free(2),) * 3, (free(2),) * 3, (free(2),) * 4, (free(3),) * 2, (slide(4), free(2)),
          (slide(3), slide(3)), (dial(6),), (free(2), free(2), free(3)), (slide(5), slide(2)), (slide(6), slide(3))]


def sturdy_kept(rng, bench=None):
    """A task with a plan that keeps it, with few rests far from each other, and EITHER orders both ways."""
    bench = bench or rng.choice(STURDY)
    everywhere = contents(bench)
    rests = [rng.choice(everywhere[:3])]
    for _ in range(rng.choice([1, 1, 2])):
        apart = [min(sum(abs(v - w) for v, w in zip(content, rest)) for rest in rests) for content in everywhere]
        rests.append(everywhere[rng.choice([k for k in range(len(apart)) if apart[k] == max(apart)])])
    rests = tuple(sorted(rests))
    rule = near_rule(rng, bench, rests)
    homes = homes_by((bench, rests, ()), rule)
    planned = []
    for start, goal in product(rests, rests):
        way = open_way(rng, bench, homes, start, goal) if start != goal else None
        if way is not None and rng.random() < 0.9:
            planned.append(((start, goal, tuple(sorted([start, goal]))), way))
    while not all_return(rests, [order for order, _ in planned]):
        planned.remove(rng.choice(planned))
    return (bench, rests, tuple(order for order, _ in planned)), (rule, tuple(way for _, way in planned))


def near_rule(rng, bench, rests):
    """A rule that leads each content to one of the rests nearest to it."""
    homes = {rest: rest for rest in rests}
    rows = []
    layer = list(rests)
    while layer:
        ahead = [(one, other) for other in layer for one in next_ones(bench, other) if one not in homes]
        rng.shuffle(ahead)
        layer = []
        for one, other in ahead:
            if one not in homes:
                homes[one] = homes[other]
                rows.append((one, other))
                layer.append(one)
    return tuple(sorted(rows))


def open_way(rng, bench, homes, start, goal):
    """A way through contents whose homes are start or goal, with a detour at times, or None."""
    def stretch(one, other):
        ways = [[one]]
        met = {one}
        while ways:
            longer = []
            for way in ways:
                for content in rng.sample(next_ones(bench, way[-1]), len(next_ones(bench, way[-1]))):
                    if content == other:
                        return way + [content]
                    if content not in met and homes[content] in (start, goal):
                        met.add(content)
                        longer.append(way + [content])
            ways = longer
        return None
    inside = [content for content in homes if homes[content] in (start, goal) and content != start]
    if rng.random() < 0.3:
        amid = rng.choice(inside)
        first, second = stretch(start, amid), stretch(amid, goal) if amid != goal else [goal]
        return tuple(first + second[1:]) if first and second else None
    way = stretch(start, goal)
    return tuple(way) if way else None
