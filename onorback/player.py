"""Runs of a plan, played deed by deed."""

from onorback.errors import BadDeed, NoIndex, NotStart, Nothing, OnError, Stuck, UnderWay, Wrong
from onorback.forms import is_content, is_integer, is_plan, is_task
from onorback.homes import rows_of


class Player:
    """A bench, a plan, and whoever is at work; each deed can be taken back."""

    def __init__(self, task, plan, rest):
        if not is_task(task):
            raise Wrong(0)
        if not is_plan(task, plan):
            raise Wrong(1)
        if not is_content(task[0], rest) or rest not in task[1]:
            raise Wrong(2)
        self._task = task
        self._plan = plan
        self._rows = rows_of(plan[0])
        self._content = rest
        self._rest = rest
        self._under_way = None
        self._at = None
        self._ended = []
        self._deeds = []
        self._states = []

    def order(self, index):
        """Give the order with this index."""
        orders = self._task[2]
        if not is_integer(index) or not 0 <= index < len(orders):
            raise NoIndex(index)
        if self._under_way is not None:
            raise UnderWay(self._under_way)
        start = orders[index][0]
        if start != self._content:
            raise NotStart(start)
        self._keep_deed(("order", index))
        self._under_way = index
        self._at = 0

    def step(self):
        """Do the next step of whoever is at work, and return it."""
        if self._under_way is None:
            raise Nothing()
        one = self._content
        if self._at is None and one not in self._rows:
            raise Stuck(one)
        self._keep_deed(("step",))
        if self._at is None:
            self._step_of_next_hand()
        else:
            self._step_of_first_hand()
        return (one, self._content)

    def _step_of_next_hand(self):
        self._content = self._rows[self._content]
        if self._content in self._task[1]:
            self._come_to_rest()

    def _step_of_first_hand(self):
        way = self._plan[1][self._under_way]
        self._at = self._at + 1
        self._content = way[self._at]
        if self._at == len(way) - 1:
            self._come_to_rest()

    def die(self):
        """Let whoever is at work die."""
        if self._under_way is None:
            raise Nothing()
        self._keep_deed(("die",))
        self._at = None
        if self._content in self._task[1]:
            self._come_to_rest()

    def _come_to_rest(self):
        self._ended.append((self._under_way, self._content))
        self._rest = self._content
        self._under_way = None
        self._at = None

    def content_now(self):
        """Return the content of the bench."""
        return self._content

    def order_now(self):
        """Return the index of the order that is under way, or None."""
        return self._under_way

    def at_now(self):
        """Return the index, in its way, of the content at which the first hand is, or None."""
        return self._at

    def rest_now(self):
        """Return the rest at which the bench lay last with nothing under way."""
        return self._rest

    def ended_now(self):
        """Return the list of the tuples (index, rest) for the orders that are no more under way."""
        return list(self._ended)

    def deeds_done(self):
        """Return the list of the deeds that stand."""
        return list(self._deeds)

    def _keep_deed(self, deed):
        self._deeds.append(deed)
        self._states.append((self._content, self._rest, self._under_way, self._at, len(self._ended)))

    def undo(self):
        """Take the last deed back, and return it."""
        if not self._deeds:
            raise Nothing()
        self._content, self._rest, self._under_way, self._at, many = self._states.pop()
        self._ended = self._ended[:many]
        return self._deeds.pop()

    def copied(self):
        """Return a Player as this one is, independent of it."""
        made = Player(self._task, self._plan, self._rest)
        made._content = self._content
        made._under_way = self._under_way
        made._at = self._at
        made._ended = list(self._ended)
        made._deeds = list(self._deeds)
        made._states = list(self._states)
        return made

    def __eq__(self, other):
        if not isinstance(other, Player):
            return False
        if self._task != other._task or self._plan != other._plan or self._content != other._content:
            return False
        return self._under_way == other._under_way and self._at == other._at


def played(task, plan, rest, deeds):
    """Return the Player behind these deeds."""
    player = Player(task, plan, rest)
    for index, deed in enumerate(deeds):
        if not _is_deed(deed):
            raise BadDeed(index)
    for deed in deeds:
        _do(player, deed)
    return player


def first_bad(task, plan, rest, deeds):
    """Return the index of the first that is no deed or cannot be done, or None."""
    player = Player(task, plan, rest)
    for index, deed in enumerate(deeds):
        if not _is_deed(deed):
            return index
        try:
            _do(player, deed)
        except OnError:
            return index
    return None


def _is_deed(thing):
    if not isinstance(thing, tuple):
        return False
    if len(thing) == 1:
        return thing[0] in ("step", "die")
    return len(thing) == 2 and thing[0] == "order"


def _do(player, deed):
    if deed[0] == "order":
        player.order(deed[1])
    elif deed[0] == "step":
        player.step()
    else:
        player.die()
