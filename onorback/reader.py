"""Benches, tasks, plans and models, read from texts.

A reading function for one line returns None if the line is bad.
"""

from onorback.benches import contents_of
from onorback.errors import NoText, Wrong
from onorback.forms import are_contents, are_orders, ascends, is_content, is_place, is_task, leads
from onorback.masks import are_model, is_large
from onorback.texts import order_words, place_words

DIGITS = "0123456789"


def content_told(bench, word):
    """Return the content of a bench that a word writes, or None."""
    content = _contents_of([word])[0]
    return content if is_content(bench, content) else None


def read_bench(text):
    """Return the bench that a text writes."""
    _ask_string(text, 0)
    bench = tuple([_good(_place_of(words), index) for index, words in _said(text)])
    if not bench:
        raise NoText(_count_lines(text))
    return bench


def read_task(text):
    """Return the task that a text writes."""
    _ask_string(text, 0)
    said = _said(text)
    heads = [words[0] for _, words in said] + ["rests"]
    many = heads.index("rests")
    bench = tuple([_good(_place_of(words), index) for index, words in said[:many]])
    if many == len(said):
        raise NoText(_count_lines(text))
    rests = _good(_rests_of(bench, said[many][1]), said[many][0])
    orders = []
    for index, words in said[many + 1:]:
        orders.append(_good(_order_of(rests, orders, words), index))
    return (bench, rests, tuple(orders))


def read_plan(task, text):
    """Return the plan of a task that a text writes."""
    _ask_task(task)
    _ask_string(text, 1)
    known = {}
    rule = []
    ways = []
    for index, line in enumerate(text.split("\n")):
        words = _words_of(line)
        if words:
            known = known or _known_in(task[0], words[0], ("row", "way"), text)
            if words[0] == "row" and not ways:
                rule.append(_good(_row_of(task, rule, _known_contents(known, words)), index))
            else:
                ways.append(_good(_way_of(task, len(ways), words[0], _known_contents(known, words)), index))
    if len(ways) < len(task[2]):
        raise NoText(_count_lines(text))
    return (tuple(rule), tuple(ways))


def read_model(task, text):
    """Return the model of a task that a text writes."""
    _ask_task(task)
    _ask_string(text, 1)
    known = {}
    owners = {rest: k for k, rest in enumerate(task[1])}
    lots = []
    for index, line in enumerate(text.split("\n")):
        words = _words_of(line)
        if words:
            known = known or _known_in(task[0], words[0], ("lot",), text)
            lot = _good(_lot_of(task, owners, len(lots), words[0], _known_contents(known, words)), index)
            for content in lot:
                owners[content] = len(lots)
            lots.append(lot)
    if len(lots) < len(task[1]) or not are_model(task, lots):
        raise NoText(_count_lines(text))
    return tuple(lots)


def _ask_string(text, place):
    if not isinstance(text, str):
        raise Wrong(place)


def _ask_task(task):
    if not is_task(task):
        raise Wrong(0)


def _good(value, index):
    if value is None:
        raise NoText(index)
    return value


def _count_lines(text):
    return text.count("\n") + 1


def _said(text):
    """Return the list of the tuples (index, words) for the lines that say something."""
    told = [(index, _words_of(line)) for index, line in enumerate(text.split("\n"))]
    return [(index, words) for index, words in told if words]


def _words_of(line):
    """Return the list of the words of a line, [] if it says nothing."""
    words = line.split(" ")
    if "" in words:
        words = [word for word in words if word != ""]
    if words and words[0].startswith("#"):
        return []
    return words


def _known_in(bench, head, heads, text):
    """Return a dict from words to the contents that they write, with all that a text has.

    It is {} if a line with this first word is bad anyway.
    """
    if head not in heads:
        return {}
    if is_large(bench):
        words = text.replace("\n", " ").split(" ")
        told = {word: _contents_of([word])[0] for word in words}
        return {word: told[word] for word in told if is_content(bench, told[word])}
    words = [""]
    for many, _ in bench:
        words = [word + digit for word in words for digit in DIGITS[:many]]
    return {word: content for word, content in zip(words, contents_of(bench))}


def _known_contents(known, words):
    """Return the tuple of the contents that the words behind the first one write, or None if some do not."""
    contents = tuple([known.get(word) for word in words[1:]])
    if None in contents:
        return None
    return contents


def _digit(sign):
    if len(sign) != 1:
        return -1
    return DIGITS.find(sign)


def _contents_of(words):
    # Whether they are contents of the bench is asked of the whole line.
    return tuple([tuple([_digit(sign) for sign in word]) for word in words])


def _place_of(words):
    if len(words) < 2:
        return None
    many = _digit(words[1])
    if words[0] == "place":
        place = (many, tuple([_move_of(word) for word in words[2:]]))
        return place if is_place(place) else None
    if len(words) == 2 and 2 <= many <= 6:
        for word, place in place_words(many):
            if word == words[0]:
                return place
    return None


def _move_of(word):
    if len(word) != 3 or word[1] != ">":
        return None
    return (_digit(word[0]), _digit(word[2]))


def _rests_of(bench, words):
    rests = _contents_of(words[1:])
    if not are_contents(bench, rests) or not rests:
        return None
    return rests


def _order_of(rests, orders, words):
    order = _told_order(words)
    if not are_orders(rests, (order,)):
        return None
    if orders and order[:2] <= orders[-1][:2]:
        return None
    return order


def _told_order(words):
    contents = _contents_of(words[1:3])
    if len(contents) < 2:
        return None
    start, goal = contents
    if words[0] == "order" and words[3:4] == ["to"]:
        return (start, goal, _contents_of(words[4:]))
    if len(words) == 3:
        for word, order in order_words(start, goal):
            if word == words[0]:
                return order
    return None


def _row_of(task, rule, row):
    if row is None or len(row) != 2 or row[0] in task[1]:
        return None
    if not leads(task[0], row[0], row[1]) or rule and row[0] <= rule[-1][0]:
        return None
    return row


def _way_of(task, k, head, way):
    bench, _, orders = task
    # Behind the last order there is none to be served, and then a way is one too many.
    if head != "way" or not way or k >= len(orders) or (way[0], way[-1]) != orders[k][:2]:
        return None
    if [at for at in range(len(way) - 1) if not leads(bench, way[at], way[at + 1])]:
        return None
    return way


def _lot_of(task, owners, k, head, lot):
    if head != "lot" or lot is None or k >= len(task[1]) or task[1][k] not in lot or not ascends(lot):
        return None
    if [content for content in lot if owners.get(content, k) != k]:
        return None
    return lot
