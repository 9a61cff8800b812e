"""Drawings of a bench: the faces round which its steps lead."""

from onorback.benches import contents_of, dial_place, is_two_way, reached_from, slide_place, steps_from
from onorback.errors import NoDrawing
from onorback.forms import is_step
from onorback.sums import pairs_of


def is_drawing(bench, thing):
    """Tell whether a value is a drawing of a bench."""
    if not _has_drawings(bench) or not isinstance(thing, list):
        return False
    if not all([_leads_round(bench, face) for face in thing]):
        return False
    steps = [step for face in thing for step in _steps_round(face)]
    if sorted(steps) != _steps_of(bench):
        return False
    if any([thing[k] >= thing[k + 1] for k in range(len(thing) - 1)]):
        return False
    return all([face == _least_turn(face) for face in thing]) and _are_rings(bench, thing)


def _has_drawings(bench):
    # A bench that hangs together has a step: it has more contents than one.
    contents = contents_of(bench)
    return is_two_way(bench) and reached_from(bench, contents[:1], []) == contents


def _leads_round(bench, thing):
    if not isinstance(thing, tuple) or len(thing) == 0:
        return False
    return all([is_step(bench, step) for step in _steps_round(thing)])


def _steps_round(face):
    return [(face[k - 1], face[k]) for k in range(len(face))]


def _steps_of(bench):
    return [(one, other) for one in contents_of(bench) for other in steps_from(bench, one)]


def _least_turn(face):
    return min([face[k:] + face[:k] for k in range(len(face))])


def _are_rings(bench, faces):
    """Tell whether the faces round each content are one ring, if each step stands in them just once."""
    following = {}
    for face in faces:
        for k, content in enumerate(face):
            following[(face[k - 2], face[k - 1])] = content
    for content in contents_of(bench):
        near = steps_from(bench, content)
        met = 1
        here = following[(near[0], content)]
        while here != near[0]:
            met += 1
            here = following[(here, content)]
        if met < len(near):
            return False
    return True


def drawing_sum(bench, faces):
    """Return the number of contents, less half that of steps, and that of faces more."""
    return len(contents_of(bench)) - len(_steps_of(bench)) // 2 + len(faces)


def drawing_of(bench):
    """Return a drawing of a bench of one or two places, each of which slides or is a dial."""
    if len(bench) > 2 or not all([_slides(place) or _is_dial(place) for place in bench]):
        raise NoDrawing()
    left = {step: True for step in _steps_of(bench)}
    faces = []
    for step in list(left):
        if step in left:
            face = _face_along(bench, step)
            for other in _steps_round(face):
                del left[other]
            faces.append(_least_turn(face))
    return sorted(faces)


def _slides(place):
    return place == slide_place(place[0])


def _is_dial(place):
    return place[0] > 2 and place == dial_place(place[0])


def _face_along(bench, step):
    face = [step[0]]
    here = step
    while here[1] != step[0] or _next_at(bench, here) != step[1]:
        face.append(here[1])
        here = (here[1], _next_at(bench, here))
    return tuple(face)


def _next_at(bench, step):
    """Return the neighbour of the second content of a step that is next, going round it, to the first one."""
    one, here = step
    # Up at each place, then down at each: so those of one place never follow one another if there are two.
    round_it = [_moved(bench, here, place, by) for by in (1, -1) for place in range(len(bench))]
    near = [content for content in round_it if content is not None]
    return near[(near.index(one) + 1) % len(near)]


def _moved(bench, content, place, by):
    many = bench[place][0]
    value = content[place] + by
    if not 0 <= value < many:
        if not _is_dial(bench[place]):
            return None
        value = value % many
    return content[:place] + (value,) + content[place + 1:]


def drawing_fault(task, faces):
    """Return the number of pairs and how many there can be by a drawing, or None if it does not bar a model."""
    pairs = pairs_of(task)
    many = len(set([rest for pair in pairs for rest in pair]))
    total = drawing_sum(task[0], faces)
    if total not in (0, 2) or many < 3:
        return None
    each, less = (3, 6) if _have_three(pairs) else (2, 4)
    most = each * many - (less if total == 2 else 0)
    if len(pairs) <= most:
        return None
    return (len(pairs), most)


def _have_three(pairs):
    """Tell whether some three rests have all three pairs."""
    for one, other in pairs:
        for other_too, third in pairs:
            if other_too == other and (one, third) in pairs:
                return True
    return False
