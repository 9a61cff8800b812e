"""Late hands: how many of them break a plan, stories that show it, barriers against fewer."""

from onorback.errors import NoReturn
from onorback.situations import LATE, Scene
from onorback.stories import is_barrier_against, least_barrier, least_number, least_story, numbers_told


def returning_scene(task, plan):
    """Return the scene of a plan that keeps a task whose orders come back."""
    scene = Scene(task, plan)
    orders = task[2]
    for index, (start, goal, ends) in enumerate(orders):
        sources = _sources_of(orders, start)
        if any([rest not in sources for rest in (goal,) + ends]):
            raise NoReturn(index)
    return scene


def _sources_of(orders, rest):
    """Return a dict with the rests from which orders lead to a rest, itself too."""
    sources = {rest: True}
    waiting = [rest]
    while waiting:
        here = waiting.pop()
        for start, goal, _ in orders:
            if goal == here and start not in sources:
                sources[start] = True
                waiting.append(start)
    return sources


def late_distance(task, plan):
    """Return the least number of late deeds in a late story, or None if the task has no order."""
    return least_number(returning_scene(task, plan), LATE)


def late_story(task, plan):
    """Return a late story with the fewest late deeds, or None if the task has no order."""
    return least_story(returning_scene(task, plan), LATE)


def late_deeds_in(task, plan, thing):
    """Return the number of late deeds if a value is a late story, or None."""
    numbers = numbers_told(returning_scene(task, plan), (LATE,), thing)
    if numbers is None:
        return None
    return numbers[0]


def barrier_of(task, plan):
    """Return a barrier of the late distance, or None if the task has no order."""
    return least_barrier(returning_scene(task, plan), LATE)


def is_barrier(task, plan, many, thing):
    """Tell whether a value is a barrier of a number of late deeds."""
    return is_barrier_against(returning_scene(task, plan), LATE, many, thing)
