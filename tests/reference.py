"""The definitions of the document, told once more in the slowest and plainest way.

Values are compared by repr, which tells 1 from True and a tuple from a list.
"""

from tests.samples import contents, next_ones, serves


def same(one, other):
    return repr(one) == repr(other)


def ascending(thing, members):
    """Whether thing is an ascending tuple of some of the members."""
    if not isinstance(thing, tuple):
        return False
    known = {repr(member) for member in members}
    if any(repr(part) not in known for part in thing):
        return False
    return same(list(thing), sorted(set(thing)))


def is_place(thing):
    if not isinstance(thing, tuple) or len(thing) != 2 or repr(thing[0]) not in {"2", "3", "4", "5", "6"}:
        return False
    return ascending(thing[1], [(v, w) for v in range(thing[0]) for w in range(thing[0]) if v != w])


def is_bench(thing):
    return isinstance(thing, tuple) and thing != () and all(is_place(part) for part in thing)


def is_content(bench, thing):
    return repr(thing) in {repr(content) for content in contents(bench)}


def steps(bench):
    return [(one, other) for one in contents(bench) for other in next_ones(bench, one)]


def is_step(bench, thing):
    return repr(thing) in {repr(step) for step in steps(bench)}


def is_task(thing):
    if not isinstance(thing, tuple) or len(thing) != 3 or not is_bench(thing[0]):
        return False
    bench, rests, orders = thing
    if not ascending(rests, contents(bench)) or rests == () or not isinstance(orders, tuple):
        return False
    pairs = {repr((start, goal)) for start in rests for goal in rests if start != goal}
    for order in orders:
        if not isinstance(order, tuple) or len(order) != 3:
            return False
        if repr(order[:2]) not in pairs or not ascending(order[2], rests):
            return False
    return same(list(orders), sorted(orders)) and len({order[:2] for order in orders}) == len(orders)


def is_rule(task, thing):
    rows = [row for row in steps(task[0]) if row[0] not in task[1]]
    return ascending(thing, rows) and len({row[0] for row in thing}) == len(thing)


def is_ways(task, thing):
    if not isinstance(thing, tuple) or len(thing) != len(task[2]):
        return False
    known = {repr(step) for step in steps(task[0])}
    for order, way in zip(task[2], thing):
        if not isinstance(way, tuple) or way == ():
            return False
        if not same(way[0], order[0]) or not same(way[-1], order[1]):
            return False
        if any(repr(pair) not in known for pair in zip(way, way[1:])):
            return False
    return True


def is_plan(task, thing):
    return isinstance(thing, tuple) and len(thing) == 2 and is_rule(task, thing[0]) and is_ways(task, thing[1])


def is_lots(task, thing):
    bench, rests, _ = task
    if not isinstance(thing, tuple) or len(thing) != len(rests):
        return False
    if not all(ascending(lot, contents(bench)) for lot in thing):
        return False
    everything = [content for lot in thing for content in lot]
    if len(set(everything)) < len(everything):
        return False
    for lot, rest in zip(thing, rests):
        if [content for content in lot if content in rests] != [rest]:
            return False
        home = {rest}
        for _ in lot:
            home |= {content for content in lot if home & set(next_ones(bench, content))}
        if home != set(lot):
            return False
    return True


def is_model(task, thing):
    return is_lots(task, thing) and all(serves(task[0], task[1], thing, order) for order in task[2])


def least_way(bench, one, other, may_enter):
    """The least of the shortest ways, from all ways with one step, two steps and so on, in their order."""
    ahead = {content: next_ones(bench, content) for content in contents(bench)}
    ways = [(one,)]
    met = {one}
    while ways:
        for way in ways:
            if way[-1] == other:
                return way
        longer = [way + (content,) for way in ways for content in ahead[way[-1]]]
        longer = [way for way in longer if way[-1] not in met and (way[-1] == other or may_enter(way[-1]))]
        # Of ways to the same content only the least one can become part of the least way.
        least = {}
        for way in longer:
            least[way[-1]] = min(way, least.get(way[-1], way))
        ways = sorted(least.values())
        met |= set(least)
    return None


def home(task, rule, content):
    rows = dict(rule)
    for _ in range(len(rule) + 1):
        if content in task[1]:
            return content
        content = rows.get(content)
    return None


def keeps(task, plan, index):
    ends = task[2][index][2]
    return all(home(task, plan[0], content) in ends for content in plan[1][index][1:-1])


class Run:
    """A run, worked out anew from all of its deeds at each question."""

    def __init__(self, task, plan, rest, deeds):
        self.content, self.rest, self.index, self.at, self.ended = rest, rest, None, None, []
        for deed in deeds:
            if deed[0] == "order":
                self.index, self.at = deed[1], 0
                continue
            way = plan[1][self.index]
            if deed == ("die",):
                self.at = None
            elif self.at is None:
                self.content = dict(plan[0])[self.content]
            else:
                self.at += 1
                self.content = way[self.at]
            gone = self.at is None and self.content in task[1]
            if gone or self.at == len(way) - 1:
                self.ended.append((self.index, self.content))
                self.rest, self.index, self.at = self.content, None, None

    def seen(self):
        return [self.content, self.index, self.at, self.rest, self.ended]


def is_story(task, plan, index, thing):
    """Whether thing is a story, word by word as the document tells it."""
    if not isinstance(thing, list) or len(thing) < 3 or not same(thing[0], ("order", index)):
        return False
    if any(not same(deed, ("step",)) and not same(deed, ("die",)) for deed in thing[1:]):
        return False
    if thing.count(("die",)) != 1:
        return False
    died = thing.index(("die",))
    if not 1 <= died - 1 < len(plan[1][index]) - 1:
        return False
    start, _, ends = task[2][index]
    rows = dict(plan[0])
    lain = []
    for many in range(died + 1, len(thing) + 1):
        run = Run(task, plan, start, thing[:many])
        content = run.content
        wrong_rest = content in task[1] and content not in ends
        stuck = content not in task[1] and content not in rows
        if wrong_rest or stuck or content in lain:
            return many == len(thing)
        if content in task[1]:
            return False
        lain.append(content)
    return False
