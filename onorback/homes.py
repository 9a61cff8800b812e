"""Homes by a rule, the paths to them, stuck contents, rings."""

from onorback.benches import contents_of


def rows_of(rule):
    """Return the dict from the first content of each row of a rule to its other one."""
    return {one: other for one, other in rule}


def home_of(task, rule, content):
    """Return the home of a content by a rule, or None."""
    path = path_home(task, rule, content)
    if path is None:
        return None
    return path[-1]


def path_home(task, rule, content):
    """Return the list of the contents from one to its home, or None if it has no home."""
    trail = trail_from(rows_of(rule), content)
    if trail[-1] not in task[1]:
        return None
    return trail


def trail_from(rows, content):
    """Return the list of the contents to which rows lead from one, itself too, none of them twice.

    It ends where there is no row, as at rests, or where the rows would lead round.
    """
    trail = [content]
    met = {content: True}
    while trail[-1] in rows:
        content = rows[trail[-1]]
        if content in met:
            return trail
        met[content] = True
        trail.append(content)
    return trail


def homes_of(task, rule):
    """Return the dict from all contents of the bench to their homes."""
    contents = contents_of(task[0])
    homes = homes_by_rows(task, rows_of(rule), contents)
    return {content: homes[content] for content in contents}


def homes_by_rows(task, rows, contents):
    """Return a dict from contents, and from those to which rows lead from them, to their homes."""
    homes = {rest: rest for rest in task[1]}
    for content in contents:
        here = content
        trail = []
        while here not in homes:
            # None until the home is known: rows that lead back to here lead round.
            homes[here] = None
            trail.append(here)
            here = rows.get(here, here)
        for earlier in trail:
            homes[earlier] = homes[here]
    return homes


def stuck_contents(task, rule):
    """Return the ascending list of the contents that are no rests and have no row."""
    rows = rows_of(rule)
    return [content for content in contents_of(task[0]) if content not in rows and content not in task[1]]


def rings_of(task, rule):
    """Return the ascending list of the rings in which rows lead round."""
    rows = rows_of(rule)
    rings = []
    for content in rows:
        trail = trail_from(rows, content)
        if rows.get(trail[-1]) == content and min(trail) == content:
            rings.append(trail)
    return rings
