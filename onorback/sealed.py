"""The sealed bench: half of its places for where the bench rests, half for where it goes, and one between.

Contents are (x, y, c); the lot of the rest (x, 0, 0) has all (x, y, 0) and all (z, x, 1).
"""

from math import isqrt

from onorback.anytoany import orders_any_to_any
from onorback.benches import contents_of, free_place


def sealed_task(h):
    """Return the task of the sealed bench whose rests are any to any, for h 1 or 2."""
    bench = (free_place(2),) * (2 * h + 1)
    rests = tuple([content for content in contents_of(bench) if sealed_home(h, content) == content])
    return (bench, rests, orders_any_to_any(rests))


def sealed_model(h):
    """Return the model of the sealed task."""
    bench, rests, _ = sealed_task(h)
    contents = contents_of(bench)
    return tuple([tuple([content for content in contents if sealed_home(h, content) == rest]) for rest in rests])


def sealed_home(h, content):
    """Return the rest in whose lot a content lies."""
    if content[-1] == 0:
        return content[:h] + (0,) * (h + 1)
    return content[h:-1] + (0,) * (h + 1)


def sealed_next(h, content):
    """Return the least of the contents of its lot that are one step nearer to its rest, or None for a rest."""
    home = sealed_home(h, content)
    if content == home:
        return None
    if content[-1] == 0:
        return _with_value(content, content.index(1, h), 0)
    apart = [k for k in range(h) if content[k] != home[k]]
    if not apart:
        return content[:-1] + (0,)
    falling = [k for k in apart if content[k] == 1]
    # The first value that falls makes the content least; if none falls, the last one that rises.
    if falling:
        return _with_value(content, falling[0], 0)
    return _with_value(content, apart[-1], 1)


def _with_value(content, place, value):
    return content[:place] + (value,) + content[place + 1:]


def sealed_way(h, start, goal):
    """Return a shortest way between two rests whose inner contents lie in the lots of the two."""
    apart = [k for k in range(h) if start[k] != goal[k]]
    if len(apart) == 1:
        return (start, goal)
    # The bench passes from lot to lot where y is start's or goal's x; the nearer one of them saves steps.
    middle = min(start[:h], goal[:h], key=sum)
    raised = [h + k for k in range(h) if middle[k] == 1]
    way = [start]
    for place in raised + [2 * h] + apart + [2 * h] + raised:
        way.append(_with_value(way[-1], place, 1 - way[-1][place]))
    return tuple(way)


def most_rests(places):
    """Return the greatest number of rests any to any that the sum lets be on so many free places of two values."""
    contents = 1 << places
    room = (places - 2) * contents
    # The greatest k for which k * (k - 3) is at most room.
    return min(contents, (3 + isqrt(9 + 4 * room)) // 2)


def places_for(many):
    """Return the least number of places that many rests need by the sum, and a number that is enough."""
    least = 1
    while most_rests(least) < many:
        least += 1
    half = 0
    while 1 << half < many:
        half += 1
    return (least, 2 * half + 1)
