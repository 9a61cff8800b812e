"""Places, contents and steps of a bench, shortest ways, what is reached, pieces, orders put in."""

# All moves of a place with so many values, in ascending order.
FREE_MOVES = {
    2: ((0, 1), (1, 0)),
    3: (
        (0, 1), (0, 2),
        (1, 0), (1, 2),
        (2, 0), (2, 1),
    ),
    4: (
        (0, 1), (0, 2), (0, 3),
        (1, 0), (1, 2), (1, 3),
        (2, 0), (2, 1), (2, 3),
        (3, 0), (3, 1), (3, 2),
    ),
    5: (
        (0, 1), (0, 2), (0, 3), (0, 4),
        (1, 0), (1, 2), (1, 3), (1, 4),
        (2, 0), (2, 1), (2, 3), (2, 4),
        (3, 0), (3, 1), (3, 2), (3, 4),
        (4, 0), (4, 1), (4, 2), (4, 3),
    ),
    6: (
        (0, 1), (0, 2), (0, 3), (0, 4), (0, 5),
        (1, 0), (1, 2), (1, 3), (1, 4), (1, 5),
        (2, 0), (2, 1), (2, 3), (2, 4), (2, 5),
        (3, 0), (3, 1), (3, 2), (3, 4), (3, 5),
        (4, 0), (4, 1), (4, 2), (4, 3), (4, 5),
        (5, 0), (5, 1), (5, 2), (5, 3), (5, 4),
    ),
}


def free_place(many):
    """Return the place with so many values that has all moves."""
    return (many, FREE_MOVES[many])


def slide_place(many):
    """Return the place with so many values that moves between neighbours."""
    return (many, tuple([(v, w) for v in range(many) for w in range(many) if abs(v - w) == 1]))


def dial_place(many):
    """Return the place whose last value and 0 are neighbours, too."""
    near = (1, many - 1)
    return (many, tuple([(v, w) for v in range(many) for w in range(many) if abs(v - w) in near]))


def rise_place(many):
    """Return the place with so many values that has all moves upwards."""
    return (many, tuple([(v, w) for v in range(many) for w in range(v + 1, many)]))


def contents_of(bench):
    """Return the ascending list of all contents."""
    contents = [()]
    for many, _ in bench:
        contents = [content + (value,) for content in contents for value in range(many)]
    return contents


def steps_from(bench, content):
    """Return the ascending list of the contents to which there is a step."""
    found = []
    for place, value in enumerate(content):
        for v, w in bench[place][1]:
            if v == value:
                found.append(_with_value(content, place, w))
    return sorted(found)


def steps_to(bench, content):
    """Return the ascending list of the contents from which there is a step."""
    found = []
    for place, value in enumerate(content):
        for v, w in bench[place][1]:
            if w == value:
                found.append(_with_value(content, place, v))
    return sorted(found)


def _with_value(content, place, value):
    return content[:place] + (value,) + content[place + 1:]


def is_two_way(bench):
    """Tell whether each move of each place can be undone by another one."""
    for _, moves in bench:
        for v, w in moves:
            if (w, v) not in moves:
                return False
    return True


def shortest_way(bench, one, other, barred):
    """Return the least of the shortest ways past what is barred, or None."""
    return least_way(bench, one, other, {content: True for content in barred}, False)


def way_inside(bench, one, other, inside):
    """Return the least of the shortest ways whose inner contents are all in the list inside, or None."""
    return least_way(bench, one, other, {content: True for content in inside}, True)


def least_way(bench, one, other, listed, wanted):
    """Return the least of the shortest ways, or None if there is none.

    listed is a dict; an inner content is in it exactly if wanted is True.
    """
    left = _steps_left(bench, one, other, listed, wanted)
    if one not in left:
        return None
    way = [one]
    while way[-1] != other:
        nearer = left[way[-1]] - 1
        # The first one is the least: what is behind it does not count against it.
        way.append([content for content in steps_from(bench, way[-1]) if left.get(content) == nearer][0])
    return tuple(way)


def _steps_left(bench, one, other, listed, wanted):
    # Counted from the end, so that the way can then be chosen from its start.
    left = {other: 0}
    layer = [other]
    while layer and one not in left:
        behind = []
        for content in layer:
            for earlier in steps_to(bench, content):
                fits = earlier == one or (earlier in listed) == wanted
                if fits and earlier not in left:
                    left[earlier] = left[content] + 1
                    behind.append(earlier)
        layer = behind
    return left


def distance(bench, one, other, barred):
    """Return the number of steps of a shortest way past what is barred, or None."""
    way = shortest_way(bench, one, other, barred)
    if way is None:
        return None
    return len(way) - 1


def reached_from(bench, some, barred):
    """Return the ascending list of some, and of all that steps reach from there past what is barred."""
    shut = {content: True for content in barred}
    reached = {content: True for content in some}
    layer = list(some)
    while layer:
        ahead = []
        for content in layer:
            for later in steps_from(bench, content):
                if later not in reached and later not in shut:
                    reached[later] = True
                    ahead.append(later)
        layer = ahead
    return sorted(reached)


def steps_home(bench, lot, rest):
    """Return a dict from the contents of a lot to the least number of steps within it to its rest.

    Contents from which the rest cannot be come to so are not in it.
    """
    # No content is None: what is asked is the way home from everywhere.
    return _steps_left(bench, None, rest, {content: True for content in lot}, True)


def pieces_of(bench, some):
    """Return the ascending list of the pieces of some contents."""
    members = sorted(set(some))
    # From which members each member can be come to.
    sources = {member: steps_home(bench, members, member) for member in members}
    pieces = []
    for member in members:
        piece = [other for other in members if other in sources[member] and member in sources[other]]
        if piece[0] == member:
            pieces.append(tuple(piece))
    return pieces


def with_orders(task, orders):
    """Return the task with these orders in the place of its own."""
    return (task[0], task[1], tuple(sorted(orders)))


def either_order(start, goal):
    """Return the order that may end at its start or at its goal."""
    return (start, goal, tuple(sorted([start, goal])))
