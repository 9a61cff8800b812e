"""Late and wrong hands together: which numbers of both break a plan."""

from onorback.late import returning_lanes, returning_scene
from onorback.situations import LATE, WRONG
from onorback.stories import Spread, breaking_numbers, first_story, numbers_told


def mixed_deeds_in(task, plan, thing):
    """Return the numbers of late and of wrong deeds if a value is a mixed story, or None."""
    return numbers_told(returning_scene(task, plan), (LATE, WRONG), thing)


def bears(task, plan, late, wrong):
    """Tell whether no mixed story has at most so many late and at most so many wrong deeds."""
    return Spread(returning_lanes(task, plan), late, wrong).next_pair() is None


def breaking_pairs(task, plan):
    """Return the ascending list of the least pairs of numbers of late and of wrong deeds in mixed stories."""
    return breaking_numbers(returning_lanes(task, plan))


def mixed_story(task, plan, late, wrong):
    """Return a mixed story with at most so many late and at most so many wrong deeds, or None."""
    return first_story(Spread(returning_lanes(task, plan), late, wrong))
