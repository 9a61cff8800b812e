"""Situations of runs of a plan, and the deeds that can be done at them."""

from onorback.errors import NotKept
from onorback.forms import is_content, is_integer
from onorback.homes import homes_of, rows_of
from onorback.judging import broken_orders

LATE = "late"
WRONG = "wrong"


class Scene:
    """A task with a plan that keeps it: where the deeds lead that can be done.

    Deeds at a situation are told as tuples (deed, situation), with None in the place of the situation if they break.
    """

    def __init__(self, task, plan):
        broken = broken_orders(task, plan)
        if broken:
            raise NotKept(broken[0])
        self.task = task
        self._rows = rows_of(plan[0])
        self._homes = homes_of(task, plan[0])
        self._ways = plan[1]
        self._starting = {rest: [] for rest in task[1]}
        self._let = []
        self._late_steps = {}
        for k, (start, goal, ends) in enumerate(task[2]):
            self._starting[start].append(k)
            self._let.append((start, goal) + ends)
            self._put_late_steps(k)

    def _put_late_steps(self, k):
        way = self._ways[k]
        for i in range(len(way) - 1):
            self._late_steps.setdefault(way[i], []).append(((LATE, k, i), way[i + 1]))

    def is_situation(self, thing):
        """Tell whether a value is a situation."""
        if not isinstance(thing, tuple) or len(thing) != 3:
            return False
        content, index, at = thing
        if not is_integer(index) or not is_integer(at) or not is_content(self.task[0], content):
            return False
        if self._homes[content] is None:
            return False
        if index == -1:
            return at == -1
        if not 0 <= index < len(self._ways):
            return False
        if at == -1:
            return content not in self._starting
        return 0 <= at < len(self._ways[index]) - 1 and self._ways[index][at] == content

    def deeds_at(self, situation, words):
        """Return the list of the deeds that can be done, of the late and wrong ones those with one of these words."""
        deeds = self._plain_deeds(situation)
        if LATE in words:
            deeds.extend(self._late_deeds(situation))
        if WRONG in words:
            deeds.extend(self.wrong_deeds(situation))
        return deeds

    def _plain_deeds(self, situation):
        content, index, at = situation
        if at != -1:
            onward = self._ways[index][at + 1]
            return [
                (("die",), self._led(situation, content, -1)),
                (("step",), self._led(situation, onward, at + 1)),
            ]
        if content in self._starting:
            return [(("order", k), (content, k, 0)) for k in self._starting[content]]
        # There is a row: the content has a home, as all contents of situations.
        return [(("step",), self._led(situation, self._rows[content], -1))]

    def _late_deeds(self, situation):
        steps = self._late_steps.get(situation[0], [])
        return [(deed, self._led(situation, content, -1)) for deed, content in steps]

    def wrong_deeds(self, situation):
        """Return the ascending list of the wrong deeds at a situation, all of which can be done."""
        content = situation[0]
        deeds = []
        for place, (many, _) in enumerate(self.task[0]):
            for value in range(many):
                if value != content[place]:
                    changed = content[:place] + (value,) + content[place + 1:]
                    deeds.append(((WRONG, place, value), self._led(situation, changed, -1)))
        return deeds

    def _led(self, situation, content, at):
        """Return the situation to which a deed leads by what lies and where the first hand is behind it, or None."""
        before, index, _ = situation
        home = self._homes[content]
        if index == -1:
            if home != self._homes[before]:
                return None
        elif home not in self._let[index]:
            return None
        if content in self._starting and (at == -1 or at == len(self._ways[index]) - 1):
            return (content, -1, -1)
        return (content, index, at)


def begin_situations(task):
    """Return the ascending list of the situations with which runs begin."""
    return [(rest, -1, -1) for rest in task[1]]


def deeds_from(task, plan, situation):
    """Return the ascending list of the deeds that can be done at a situation, and of where they lead."""
    return sorted(Scene(task, plan).deeds_at(situation, (LATE,)))
