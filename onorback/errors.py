"""The errors that the package raises.

Each keeps the arguments of its constructor, the objects themselves, as fields.
"""


class OnError(ValueError):
    """What all errors of the package are; it is raised nowhere itself."""


class BadDeed(OnError):
    """The deed with this index is none by form."""

    def __init__(self, index):
        self.index = index


class Broken(OnError):
    """The promise with this index is not held, as the story shows."""

    def __init__(self, index, story):
        self.index = index
        self.story = story


class InUse(OnError):
    """A rest is the start or the goal of this order."""

    def __init__(self, start, goal):
        self.start = start
        self.goal = goal


class NoCommand(OnError):
    """A line is no command."""

    def __init__(self):
        """Take no arguments: none would be kept."""


class NoDeed(OnError):
    """A value is no deed by form."""

    def __init__(self):
        """Take no arguments: none would be kept."""


class NoDrawing(OnError):
    """No drawing is told of this bench."""

    def __init__(self):
        """Take no arguments: none would be kept."""


class NoIndex(OnError):
    """Nothing has this index."""

    def __init__(self, index):
        self.index = index


class NoJoin(OnError):
    """Two rests cannot be made one."""

    def __init__(self):
        """Take no arguments: none would be kept."""


class NoOrder(OnError):
    """There is no such order, or it is there already, or it is not there."""

    def __init__(self, start, goal):
        self.start = start
        self.goal = goal


class NoRest(OnError):
    """This content cannot become a rest, or cannot cease to be one."""

    def __init__(self, content):
        self.content = content


class NoReturn(OnError):
    """The start of the order with this index cannot be come to again."""

    def __init__(self, index):
        self.index = index


class NoText(OnError):
    """The line with this index is bad, or something lacks at the end."""

    def __init__(self, line):
        self.line = line


class NotKept(OnError):
    """The plan does not keep the order with this index."""

    def __init__(self, index):
        self.index = index


class NotServed(OnError):
    """The lots do not serve the order with this index."""

    def __init__(self, index):
        self.index = index


class NotStart(OnError):
    """The bench does not lie at this start of an order."""

    def __init__(self, start):
        self.start = start


class NotTwoWay(OnError):
    """The bench is not two-way."""

    def __init__(self):
        """Take no arguments: none would be kept."""


class Nothing(OnError):
    """Nothing is under way, or there is nothing to take back."""

    def __init__(self):
        """Take no arguments: none would be kept."""


class Refused(OnError):
    """There is no model, as the tree of cases shows."""

    def __init__(self, tree):
        self.tree = tree


class Stuck(OnError):
    """The next hand finds no row from this content."""

    def __init__(self, content):
        self.content = content


class TooMany(OnError):
    """There are more than so many."""

    def __init__(self, most):
        self.most = most


class UnderWay(OnError):
    """The order with this index is under way already."""

    def __init__(self, index):
        self.index = index


class Wrong(OnError):
    """The argument at this place is not as described."""

    def __init__(self, place):
        self.place = place
