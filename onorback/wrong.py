"""Wrong hands: how many of their steps break a plan, stories that show it, barriers against fewer."""

from onorback.lanes import Lanes
from onorback.situations import WRONG, Scene
from onorback.stories import is_barrier_against, least_barrier, least_number, least_story, numbers_told


def wrong_deeds_from(task, plan, situation):
    """Return the ascending list of the wrong deeds at a situation, and of where they lead."""
    return Scene(task, plan).wrong_deeds(situation)


def wrong_distance(task, plan):
    """Return the least number of wrong deeds in a wrong story, or None if there is no such story."""
    return least_number(Lanes(task, plan), WRONG)


def wrong_story(task, plan):
    """Return a wrong story with the fewest wrong deeds, or None."""
    return least_story(Lanes(task, plan), WRONG)


def wrong_deeds_in(task, plan, thing):
    """Return the number of wrong deeds if a value is a wrong story, or None."""
    numbers = numbers_told(Scene(task, plan), (WRONG,), thing)
    if numbers is None:
        return None
    return numbers[1]


def wrong_barrier_of(task, plan):
    """Return a wrong barrier of the wrong distance, or None if there is no such distance."""
    return least_barrier(Lanes(task, plan), WRONG)


def is_wrong_barrier(task, plan, many, thing):
    """Tell whether a value is a barrier of a number of wrong deeds."""
    return is_barrier_against(Scene(task, plan), WRONG, many, thing)
