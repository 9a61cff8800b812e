"""Late hands: how many of them break a plan, stories that show it, barriers against fewer."""

from onorback.errors import NoReturn
from onorback.lanes import Lanes
from onorback.masks import flooded
from onorback.situations import LATE, Scene
from onorback.stories import is_barrier_against, least_barrier, least_number, least_story, numbers_told


def returning_scene(task, plan):
    """Return the scene of a plan that keeps a task whose orders come back."""
    scene = Scene(task, plan)
    _ask_return(task)
    return scene


def returning_lanes(task, plan):
    """Return the lanes of a plan that keeps a task whose orders come back."""
    lanes = Lanes(task, plan)
    _ask_return(task)
    return lanes


def _ask_return(task):
    """Raise NoReturn if not all orders come back."""
    _, rests, orders = task
    numbers = {rest: number for number, rest in enumerate(rests)}
    behind = [0] * len(rests)
    for start, goal, _ in orders:
        behind[numbers[goal]] |= 1 << numbers[start]
    # From which rests orders lead to each start.
    sources = {}
    for index, (start, goal, ends) in enumerate(orders):
        if start not in sources:
            sources[start] = flooded(behind, 1 << numbers[start], -1)
        for rest in (goal,) + ends:
            if not sources[start] >> numbers[rest] & 1:
                raise NoReturn(index)


def late_distance(task, plan):
    """Return the least number of late deeds in a late story, or None if the task has no order."""
    return least_number(returning_lanes(task, plan), LATE)


def late_story(task, plan):
    """Return a late story with the fewest late deeds, or None if the task has no order."""
    return least_story(returning_lanes(task, plan), LATE)


def late_deeds_in(task, plan, thing):
    """Return the number of late deeds if a value is a late story, or None."""
    numbers = numbers_told(returning_scene(task, plan), (LATE,), thing)
    if numbers is None:
        return None
    return numbers[0]


def barrier_of(task, plan):
    """Return a barrier of the late distance, or None if the task has no order."""
    return least_barrier(returning_lanes(task, plan), LATE)


def is_barrier(task, plan, many, thing):
    """Tell whether a value is a barrier of a number of late deeds."""
    return is_barrier_against(returning_scene(task, plan), LATE, many, thing)
