"""Late and wrong hands together: which numbers of both break a plan."""

from onorback.late import returning_scene
from onorback.situations import LATE, WRONG
from onorback.stories import Spread, numbers_told


def mixed_deeds_in(task, plan, thing):
    """Return the numbers of late and of wrong deeds if a value is a mixed story, or None."""
    return numbers_told(returning_scene(task, plan), (LATE, WRONG), thing)


def bears(task, plan, late, wrong):
    """Tell whether no mixed story has at most so many late and at most so many wrong deeds."""
    return mixed_story(task, plan, late, wrong) is None


def breaking_pairs(task, plan):
    """Return the ascending list of the least pairs of numbers of late and of wrong deeds in mixed stories."""
    return [pair for pair, _ in _least_stories(task, plan)]


def mixed_story(task, plan, late, wrong):
    """Return a mixed story with at most so many late and at most so many wrong deeds, or None."""
    for pair, story in _least_stories(task, plan):
        if pair[0] <= late and pair[1] <= wrong:
            return story
    return None


def _least_stories(task, plan):
    return Spread(returning_scene(task, plan), (LATE, WRONG)).pairs
