"""Looks: a tree that tells by the values of one place after the other what is to be done by a rule."""

from onorback.benches import steps_from
from onorback.errors import TooMany
from onorback.forms import is_integer

REST = ("rest",)


def _actions(task, rule):
    """Return the dict from the rests, and the first contents of the rows, to their actions."""
    actions = {rest: REST for rest in task[1]}
    for one, other in rule:
        place = [k for k in range(len(one)) if one[k] != other[k]][0]
        actions[one] = ("put", place, other[place])
    return actions


class Sight:
    """Which looks tell an action of each of some contents; sets of these are masks, with a bit for each."""

    def __init__(self, bench, actions):
        self.everything = (1 << len(actions)) - 1
        self._masks = {}
        self._with_value = [[0] * many for many, _ in bench]
        self._known = {}
        for k, content in enumerate(actions):
            self._masks[actions[content]] = self._masks.get(actions[content], 0) | (1 << k)
            for place, value in enumerate(content):
                self._with_value[place][value] |= 1 << k

    def told_within(self, mask, depth):
        """Return a looks of at most this depth that tells the actions of what is in a mask, or None."""
        if (mask, depth) not in self._known:
            self._known[(mask, depth)] = self._look(mask, depth)
        return self._known[(mask, depth)]

    def _look(self, mask, depth):
        for action in self._masks:
            if mask & ~self._masks[action] == 0:
                return action
        if depth == 0:
            return None
        for place, with_value in enumerate(self._with_value):
            parts = [mask & one for one in with_value]
            # Where all have the same value, as behind a look at this place, nothing is seen.
            if mask not in parts:
                branches = self._branches(parts, depth - 1)
                if branches is not None:
                    return ("look", place, branches)
        return None

    def _branches(self, parts, depth):
        branches = []
        for part in parts:
            branch = self.told_within(part, depth)
            if branch is None:
                return None
            branches.append(branch)
        return tuple(branches)


def least_looks(task, rule):
    """Return the least depth of a looks that tells a rule, and such a looks."""
    sight = Sight(task[0], _actions(task, rule))
    depth = 0
    while sight.told_within(sight.everything, depth) is None:
        depth += 1
    return (depth, sight.told_within(sight.everything, depth))


def looks_depth(task, rule, thing):
    """Return the depth of a value if it is a looks that tells a rule, or None."""
    depth = _depth_of(task[0], thing, [])
    if depth is None:
        return None
    actions = _actions(task, rule)
    if any([action_by(thing, content) != actions[content] for content in actions]):
        return None
    return depth


def _depth_of(bench, thing, seen):
    """Return the depth of a value if it is a looks in which no place is looked at that was seen, or None."""
    if not isinstance(thing, tuple) or len(thing) not in (1, 3):
        return None
    if len(thing) == 1:
        return 0 if thing[0] == "rest" else None
    word, place, rest = thing
    if not is_integer(place) or not 0 <= place < len(bench):
        return None
    many = bench[place][0]
    if word == "put":
        return 0 if is_integer(rest) and 0 <= rest < many else None
    if word != "look" or place in seen or not isinstance(rest, tuple) or len(rest) != many:
        return None
    deepest = 0
    for branch in rest:
        depth = _depth_of(bench, branch, seen + [place])
        if depth is None:
            return None
        deepest = max(deepest, depth)
    return deepest + 1


def action_by(looks, content):
    """Return the action to which one comes by the values of a content."""
    while looks[0] == "look":
        looks = looks[2][content[looks[1]]]
    return looks


def least_rule(task, model, most):
    """Return the least depth of a looks for a rule of a model, such a looks, and the least such rule."""
    rules = _rules_of(task, model, most)
    depth, looks = least_looks(task, rules[0])
    best = rules[0]
    for rule in rules[1:]:
        sight = Sight(task[0], _actions(task, rule))
        if sight.told_within(sight.everything, depth - 1) is not None:
            depth, looks = least_looks(task, rule)
            best = rule
    return (depth, looks, best)


def _rules_of(task, model, most):
    """Return the ascending list of the rules of a model that lead all its contents home, at most so many."""
    bench, rests, _ = task
    ahead = {}
    homes = {}
    for rest, lot in zip(rests, model):
        for content in lot:
            homes[content] = rest
            ahead[content] = [other for other in steps_from(bench, content) if other in lot]
    # Each of these may be part of a rule, so that there are never more of them than rules.
    begun = [{}]
    for content in sorted(ahead):
        if content != homes[content]:
            longer = []
            for rows in begun:
                for other in ahead[content]:
                    if _may_lead_home(ahead, rows, other, content, homes[content]):
                        longer.append({**rows, content: other})
            if len(longer) > most:
                raise TooMany(most)
            begun = longer
    return [tuple([(one, rows[one]) for one in rows]) for rows in begun]


def _may_lead_home(ahead, rows, here, barred, home):
    """Tell whether rows, with any others put in, may lead from a content home past a barred one."""
    met = {barred: True, here: True}
    waiting = [here]
    while waiting:
        content = waiting.pop()
        if content == home:
            return True
        following = [rows[content]] if content in rows else ahead[content]
        for other in following:
            if other not in met:
                met[other] = True
                waiting.append(other)
    return False
