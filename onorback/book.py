"""A task that is led by deeds, with a plan that keeps it at each moment, and with promises of its distances."""

from onorback.benches import with_orders
from onorback.cases import case_tree
from onorback.errors import Broken, InUse, NoDeed, NoIndex, NoOrder, NoRest, NoReturn, NotKept, Nothing, Refused, Wrong
from onorback.finding import find_model
from onorback.forms import are_orders, is_content, is_integer, is_plan, is_task
from onorback.judging import broken_orders
from onorback.late import late_distance, late_story
from onorback.models import plan_of
from onorback.situations import LATE, WRONG
from onorback.wrong import wrong_distance, wrong_story

# How many parts each deed has behind its word.
PARTS = {"rest": 1, "unrest": 1, "order": 3, "drop": 2, "plan": 1, "promise": 1, "free": 1}


class Book:
    """A task, a plan that keeps it, and promises; each deed can be taken back, and done again."""

    def __init__(self, task):
        if not is_task(task):
            raise Wrong(0)
        self._task = task
        self._plan = _found_plan(task)
        self._promises = ()
        self._deeds = []
        # What was so ahead of each deed, and the deeds that were taken back, with what was so behind them.
        self._past = []
        self._undone = []

    def do(self, deed):
        """Do a deed: change the task, the plan or the promises."""
        if not _is_deed(self._task, deed):
            raise NoDeed()
        word = deed[0]
        task, plan, promises = self._state()
        if word == "promise":
            promises = promises + (deed[1],)
        elif word == "free":
            promises = _without_promise(promises, deed[1])
        elif word == "plan":
            plan = _kept_plan(task, deed[1])
        else:
            task = _changed_task(task, deed)
            plan = _found_plan(task)
        _ask_promises(task, plan, promises)
        self._put(deed, (task, plan, promises))
        self._undone = []

    def _state(self):
        return (self._task, self._plan, self._promises)

    def _put(self, deed, state):
        self._past.append(self._state())
        self._deeds.append(deed)
        self._task, self._plan, self._promises = state

    def task_now(self):
        """Return the task."""
        return self._task

    def plan_now(self):
        """Return the plan."""
        return self._plan

    def promises_now(self):
        """Return the list of the promises."""
        return list(self._promises)

    def deeds_done(self):
        """Return the list of the deeds that stand."""
        return list(self._deeds)

    def undo(self):
        """Take the last deed back, with all that it changed, and return it."""
        if not self._deeds:
            raise Nothing()
        deed = self._deeds.pop()
        self._undone.append((deed, self._state()))
        self._task, self._plan, self._promises = self._past.pop()
        return deed

    def redo(self):
        """Do the deed that was taken back last again, and return it."""
        if not self._undone:
            raise Nothing()
        deed, state = self._undone.pop()
        self._put(deed, state)
        return deed

    def copied(self):
        """Return a Book as this one is, independent of it."""
        # Without orders there is a plan at once.
        made = Book(with_orders(self._task, []))
        made._task, made._plan, made._promises = self._state()
        made._deeds = list(self._deeds)
        made._past = list(self._past)
        made._undone = list(self._undone)
        return made

    def __eq__(self, other):
        if not isinstance(other, Book):
            return False
        if self._task != other._task or self._plan != other._plan:
            return False
        return self._promises == other._promises


def distance_told(task, plan, word):
    """Return the distance with this word, late or wrong, of a plan that keeps a task, or None."""
    if word == WRONG:
        return wrong_distance(task, plan)
    try:
        return late_distance(task, plan)
    except NoReturn:
        return None


def _ask_promises(task, plan, promises):
    distances = {}
    for index, (word, number) in enumerate(promises):
        if word not in distances:
            distances[word] = distance_told(task, plan, word)
        if distances[word] is not None and distances[word] < number:
            raise Broken(index, late_story(task, plan) if word == LATE else wrong_story(task, plan))


def _is_deed(task, thing):
    if not isinstance(thing, tuple) or len(thing) == 0 or not isinstance(thing[0], str):
        return False
    if PARTS.get(thing[0]) != len(thing) - 1:
        return False
    if thing[0] == "plan":
        return is_plan(task, thing[1])
    return thing[0] != "promise" or _is_promise(thing[1])


def _is_promise(thing):
    if not isinstance(thing, tuple) or len(thing) != 2 or thing[0] not in (LATE, WRONG):
        return False
    return is_integer(thing[1]) and thing[1] >= 1


def _found_plan(task):
    model = find_model(task)
    if model is None:
        raise Refused(case_tree(task))
    return plan_of(task, model)


def _kept_plan(task, plan):
    broken = broken_orders(task, plan)
    if broken:
        raise NotKept(broken[0])
    return plan


def _without_promise(promises, index):
    if not is_integer(index) or not 0 <= index < len(promises):
        raise NoIndex(index)
    return promises[:index] + promises[index + 1:]


def _changed_task(task, deed):
    if deed[0] == "rest":
        return _with_rest(task, deed[1])
    if deed[0] == "unrest":
        return _without_rest(task, deed[1])
    if deed[0] == "order":
        return _with_order(task, deed[1:])
    return _without_order(task, deed[1], deed[2])


def _with_rest(task, content):
    bench, rests, orders = task
    if not is_content(bench, content) or content in rests:
        raise NoRest(content)
    return (bench, tuple(sorted(rests + (content,))), orders)


def _without_rest(task, content):
    bench, rests, orders = task
    if not is_content(bench, content) or content not in rests or len(rests) == 1:
        raise NoRest(content)
    for start, goal, _ in orders:
        if content in (start, goal):
            raise InUse(start, goal)
    kept = [(start, goal, _without(ends, content)) for start, goal, ends in orders]
    return (bench, _without(rests, content), tuple(kept))


def _without(rests, content):
    return tuple([rest for rest in rests if rest != content])


def _with_order(task, order):
    _, rests, orders = task
    start, goal, _ = order
    if not are_orders(rests, (order,)) or _stands(orders, start, goal):
        raise NoOrder(start, goal)
    return with_orders(task, list(orders) + [order])


def _without_order(task, start, goal):
    bench, _, orders = task
    if not is_content(bench, start) or not is_content(bench, goal) or not _stands(orders, start, goal):
        raise NoOrder(start, goal)
    return with_orders(task, [order for order in orders if order[:2] != (start, goal)])


def _stands(orders, start, goal):
    return any([order[:2] == (start, goal) for order in orders])
