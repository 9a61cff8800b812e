"""A Book that is led by lines: deeds and questions."""

from onorback.book import Book, distance_told
from onorback.errors import NoCommand, NoDeed, NotTwoWay, OnError, Wrong
from onorback.homes import home_of
from onorback.reader import content_told, read_task
from onorback.situations import LATE, WRONG
from onorback.sums import pairs_of, room_of
from onorback.texts import order_words, show_content, show_plan, show_task

MANY_NUMBERS = 100


class Desk:
    """A Book of a task that was read from a text."""

    def __init__(self, text):
        self._book = Book(read_task(text))

    def execute(self, line):
        """Do the deed, or answer the question, of a line, and return the list of the lines of the answer."""
        if not isinstance(line, str):
            raise Wrong(0)
        words = [word for word in line.split(" ") if word != ""]
        answer = self._answer(words)
        if answer is not None:
            return answer
        if words in (["undo"], ["redo"]):
            return self._done(words[0], None)
        # Where the words tell no deed, None is one as little for the Book.
        return self._done("do", _deed_told(self._book.task_now()[0], words))

    def _done(self, word, deed):
        try:
            if word == "undo":
                self._book.undo()
            elif word == "redo":
                self._book.redo()
            else:
                self._book.do(deed)
        except NoDeed:
            raise NoCommand()
        except OnError as refusal:
            return ["refused " + type(refusal).__name__]
        return ["done"]

    def _answer(self, words):
        """Return the lines that answer a question, or None if the words are none."""
        task = self._book.task_now()
        plan = self._book.plan_now()
        if words == ["task"]:
            return _lines_of(show_task(task))
        if words == ["plan"]:
            return _lines_of(show_plan(plan))
        if words == ["promises"]:
            return [f"{word} {number}" for word, number in self._book.promises_now()]
        if words == ["room"]:
            return [_room_left(task)]
        if words in (["distance", LATE], ["distance", WRONG]):
            distance = distance_told(task, plan, words[1])
            return ["none" if distance is None else str(distance)]
        if len(words) == 2 and words[0] == "home":
            return _home_told(task, plan, content_told(task[0], words[1]))
        return None

    def book(self):
        """Return a copy of the Book."""
        return self._book.copied()


def _lines_of(text):
    return text.split("\n") if text else []


def _room_left(task):
    try:
        room = room_of(task)
    except NotTwoWay:
        return "none"
    return str(room - len(pairs_of(task)))


def _home_told(task, plan, content):
    if content is None:
        return None
    home = home_of(task, plan[0], content)
    return ["none" if home is None else show_content(home)]


def _deed_told(bench, words):
    """Return the deed that words tell, or None; whether it can be done is not asked."""
    head = words[0] if words else ""
    if head in (LATE, WRONG, "free"):
        return _numbered_deed(head, words[1:])
    ends = []
    names = words[1:]
    if head == "order":
        if words[3:4] != ["to"]:
            return None
        names = words[1:3]
        ends = [content_told(bench, word) for word in words[4:]]
    contents = [content_told(bench, word) for word in names]
    if None in contents or None in ends:
        return None
    if head == "order":
        return ("order", contents[0], contents[1], tuple(ends))
    if head in ("rest", "unrest") and len(contents) == 1:
        return (head, contents[0])
    if len(contents) != 2:
        return None
    start, goal = contents
    if head == "drop":
        return ("drop", start, goal)
    for word, order in order_words(start, goal):
        if word == head:
            return ("order",) + order
    return None


def _numbered_deed(head, words):
    numbers = {str(number): number for number in range(MANY_NUMBERS)}
    if len(words) != 1 or words[0] not in numbers:
        return None
    if head == "free":
        return ("free", numbers[words[0]])
    return ("promise", (head, numbers[words[0]]))
