"""Benches, tasks, plans and models, shown as texts."""

from onorback.benches import dial_place, either_order, free_place, rise_place, slide_place


def place_words(many):
    """Return the list of the tuples (word, place) for places with so many values."""
    words = [("free", free_place(many)), ("slide", slide_place(many))]
    if many > 2:
        words.append(("dial", dial_place(many)))
    words.append(("rise", rise_place(many)))
    return words


def order_words(start, goal):
    """Return the list of the tuples (word, order) for orders whose ends need not be told."""
    return [
        ("either", either_order(start, goal)),
        ("on", (start, goal, (goal,))),
        ("back", (start, goal, (start,))),
    ]


def show_bench(bench):
    """Return the text of a bench."""
    return "\n".join([_place_line(place) for place in bench])


def show_task(task):
    """Return the text of a task."""
    bench, rests, orders = task
    lines = [_place_line(place) for place in bench]
    lines.append(_line("rests", rests))
    lines.extend([_order_line(order) for order in orders])
    return "\n".join(lines)


def show_plan(plan):
    """Return the text of a plan."""
    rule, ways = plan
    return "\n".join([_line("row", row) for row in rule] + [_line("way", way) for way in ways])


def show_model(model):
    """Return the text of a model."""
    return "\n".join([_line("lot", lot) for lot in model])


def _place_line(place):
    many, moves = place
    for word, known in place_words(many):
        if known == place:
            return f"{word} {many}"
    return " ".join([f"place {many}"] + [f"{v}>{w}" for v, w in moves])


def _order_line(order):
    start, goal, ends = order
    for word, known in order_words(start, goal):
        if known == order:
            return _line(word, (start, goal))
    return " ".join([_line("order", (start, goal)), "to"] + [show_content(end) for end in ends])


def _line(word, contents):
    return " ".join([word] + [show_content(content) for content in contents])


def show_content(content):
    """Return the word that writes a content."""
    return "".join([str(value) for value in content])
