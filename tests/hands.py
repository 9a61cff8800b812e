"""Situations, deeds, stories and barriers of [55] to [60], told once more in the plainest way.

Each deed that there could be by its form is asked by the words of the document whether it can be done.
"""

from itertools import product

from tests import reference, samples

NO = "cannot be done"


class Hands:
    """A task, a plan that keeps it, and the homes of its contents."""

    def __init__(self, task, plan):
        self.bench, self.rests, self.orders = task
        self.rule, self.ways = plan
        self.homes = {content: reference.home(task, plan[0], content) for content in samples.contents(self.bench)}

    def beginnings(self):
        return [(rest, -1, -1) for rest in self.rests]

    def situations(self):
        """All situations, whether deeds lead to them or not."""
        found = []
        for content, home in self.homes.items():
            if home is None:
                continue
            found.append((content, -1, -1))
            for index, way in enumerate(self.ways):
                if content not in self.rests:
                    found.append((content, index, -1))
                found += [(content, index, at) for at in range(len(way) - 1) if way[at] == content]
        return sorted(found)

    def false_situations(self):
        """Tuples that are no situations, though each of their items could be one's."""
        right = set(self.situations())
        ats = range(-2, max([len(way) for way in self.ways], default=0) + 1)
        return [each for each in product(self.homes, range(-2, len(self.ways) + 1), ats) if each not in right]

    def forms(self):
        """All deeds that there could be."""
        forms = [("step",), ("die",)] + [("order", k) for k in range(len(self.orders))]
        forms += [("late", k, i) for k, way in enumerate(self.ways) for i in range(len(way) - 1)]
        return forms + [("wrong", p, v) for p, place in enumerate(self.bench) for v in range(place[0])]

    def is_let(self, home, situation):
        content, index, _ = situation
        if index == -1:
            return home == self.homes[content]
        start, goal, ends = self.orders[index]
        return home == start or home == goal or home in ends

    def told(self, situation, deed):
        """To what a deed leads by its own words, or NO."""
        content, index, at = situation
        word = deed[0]
        if word == "order":
            possible = content in self.rests and index == -1 and self.orders[deed[1]][0] == content
            return (content, deed[1], 0) if possible else NO
        if word == "step" and at != -1:
            return (self.ways[index][at + 1], index, at + 1)
        if word == "step":
            rows = dict(self.rule)
            return (rows[content], index, -1) if content not in self.rests and content in rows else NO
        if word == "die":
            return (content, index, -1) if at != -1 else NO
        if word == "late":
            way = self.ways[deed[1]]
            return (way[deed[2] + 1], index, -1) if way[deed[2]] == content else NO
        if content[deed[1]] == deed[2]:
            return NO
        changed = list(content)
        changed[deed[1]] = deed[2]
        return (tuple(changed), index, -1)

    def led(self, situation, deed):
        """The situation to which a deed leads, None if it breaks, or NO."""
        told = self.told(situation, deed)
        if told == NO:
            return NO
        content, index, at = told
        if not self.is_let(self.homes[content], situation):
            return None
        if content in self.rests and (at == -1 or at == len(self.ways[index]) - 1):
            return (content, -1, -1)
        return told

    def deeds(self, situation, words):
        """The ascending list of the deeds that can be done, and where they lead; late and wrong ones by the words."""
        found = []
        for deed in self.forms():
            if deed[0] not in ("late", "wrong") or deed[0] in words:
                other = self.led(situation, deed)
                if other != NO:
                    found.append((deed, other))
        return sorted(found)

    def reached(self, words):
        """The situations to which deeds that do not break lead from a beginning."""
        met = {beginning: True for beginning in self.beginnings()}
        waiting = list(met)
        while waiting:
            for _, other in self.deeds(waiting.pop(), words):
                if other is not None and other not in met:
                    met[other] = True
                    waiting.append(other)
        return sorted(met)

    def pairs(self, words, late, wrong):
        """The least pairs of late and wrong deeds with which something breaks, of at most so many of both."""
        steps = {}
        met = {(beginning, 0, 0) for beginning in self.beginnings()}
        waiting = list(met)
        broken = set()
        while waiting:
            situation, many_late, many_wrong = waiting.pop()
            if situation not in steps:
                steps[situation] = self.deeds(situation, words)
            for deed, other in steps[situation]:
                state = (other, many_late + (deed[0] == "late"), many_wrong + (deed[0] == "wrong"))
                if state[1] > late or state[2] > wrong or state in met:
                    continue
                met.add(state)
                if other is None:
                    broken.add(state[1:])
                else:
                    waiting.append(state)
        return sorted(p for p in broken if not any(q != p and q[0] <= p[0] and q[1] <= p[1] for q in broken))

    def distance(self, word):
        """The least number of deeds with this word that break, by a search of all situations, or None."""
        most = len(self.situations()) + 1
        pairs = self.pairs((word,), most if word == "late" else 0, most if word == "wrong" else 0)
        return sum(pairs[0]) if pairs else None

    def numbers(self, words, thing):
        """The numbers of late and wrong deeds in a story, or None."""
        if not isinstance(thing, tuple) or len(thing) != 2 or not isinstance(thing[1], list):
            return None
        if repr(thing[0]) not in [repr(rest) for rest in self.rests]:
            return None
        situation = (thing[0], -1, -1)
        for deed in thing[1]:
            if situation is None:
                return None
            known = {repr(form): form for form in self.forms() if form[0] not in ("late", "wrong") or form[0] in words}
            if repr(deed) not in known:
                return None
            situation = self.led(situation, known[repr(deed)])
            if situation == NO:
                return None
        if situation is not None:
            return None
        return tuple(len([deed for deed in thing[1] if deed[0] == word]) for word in ("late", "wrong"))

    def is_barrier(self, word, many, thing):
        """Whether thing is a barrier of a number of deeds with this word."""
        if not isinstance(thing, list) or any(not isinstance(item, tuple) or len(item) != 2 for item in thing):
            return False
        known = {repr(situation): situation for situation in self.situations()}
        heights = {}
        for situation, height in thing:
            if repr(situation) not in known or repr(situation) in heights:
                return False
            if type(height) is not int or height < 0 or height >= many:
                return False
            heights[repr(situation)] = height
        if repr(sorted(thing)) != repr(thing) or any(heights.get(repr(b)) != 0 for b in self.beginnings()):
            return False
        for situation, height in thing:
            for deed, other in self.deeds(situation, (word,)):
                behind = height + (deed[0] == word)
                if behind < many and (other is None or repr(other) not in heights or heights[repr(other)] > behind):
                    return False
        return True


def comes_back(task, index):
    """Whether the start of an order can be come to by orders from its goal and from each of its ends."""
    start, goal, ends = task[2][index]
    ahead = {(one, one) for one in task[1]} | {(order[0], order[1]) for order in task[2]}
    for middle, one, other in product(task[1], task[1], task[1]):
        if (one, middle) in ahead and (middle, other) in ahead:
            ahead.add((one, other))
    return all((rest, start) in ahead for rest in (goal,) + ends)


def first_without_return(task):
    """The least index of an order that does not come back, or None."""
    return next((k for k in range(len(task[2])) if not comes_back(task, k)), None)
