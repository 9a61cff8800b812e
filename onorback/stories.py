"""Stories of deeds of which the last one breaks a plan, and barriers, which show that there are none so short.

Words are those of the deeds that are counted: (LATE,), (WRONG,) or both.
"""

from heapq import heappop, heappush

from onorback.forms import ascends, is_content, is_integer
from onorback.situations import LATE, WRONG, begin_situations


class Spread:
    """What deeds lead to from the beginnings, and what they break, with as few late and wrong ones as can be.

    heights is the dict from situations to the least number of late and wrong deeds together, if but one of both is
    counted; pairs is the ascending list of the tuples (pair, story) for the least pairs of late and wrong deeds.
    """

    def __init__(self, scene, words):
        self.heights = {}
        self.pairs = []
        self._scene = scene
        self._words = words
        # What was met, with the number of what was ahead of it and the deed; None stands for what is broken.
        self._met = []
        self._queue = []
        # By how few wrong deeds each was met: with more late ones only fewer wrong ones are of use.
        self._fewest = {}
        for beginning in begin_situations(scene.task):
            self._put(0, 0, beginning, None, None)
        while self._queue:
            late, wrong, number = heappop(self._queue)
            if self._is_of_use(self._met[number][0], wrong):
                self._look_at(late, wrong, number)

    def _is_of_use(self, situation, wrong):
        if self._fewest.get(None, wrong + 1) <= wrong:
            return False
        return self._fewest.get(situation, wrong + 1) > wrong

    def _put(self, late, wrong, situation, ahead, deed):
        if self._is_of_use(situation, wrong):
            heappush(self._queue, (late, wrong, len(self._met)))
            self._met.append((situation, ahead, deed))

    def _look_at(self, late, wrong, number):
        situation = self._met[number][0]
        self._fewest[situation] = wrong
        if situation is None:
            self.pairs.append(((late, wrong), self._story(number)))
            return
        self.heights.setdefault(situation, late + wrong)
        for deed, other in self._scene.deeds_at(situation, self._words):
            more_late = 1 if deed[0] == LATE else 0
            more_wrong = 1 if deed[0] == WRONG else 0
            self._put(late + more_late, wrong + more_wrong, other, number, deed)

    def _story(self, number):
        deeds = []
        situation, ahead, deed = self._met[number]
        while ahead is not None:
            deeds.append(deed)
            situation, ahead, deed = self._met[ahead]
        return (situation[0], deeds[::-1])


def least_number(scene, word):
    """Return the least number of deeds with this word, and no other ones that are counted, in a story, or None."""
    pairs = Spread(scene, (word,)).pairs
    if not pairs:
        return None
    return sum(pairs[0][0])


def least_story(scene, word):
    """Return a story with as few deeds with this word, and no other ones that are counted, or None."""
    pairs = Spread(scene, (word,)).pairs
    if not pairs:
        return None
    return pairs[0][1]


def numbers_told(scene, words, thing):
    """Return the numbers of late and of wrong deeds if a value is a story with no others than these, or None."""
    bench, rests, _ = scene.task
    if not isinstance(thing, tuple) or len(thing) != 2 or not isinstance(thing[1], list):
        return None
    rest, deeds = thing
    if not is_content(bench, rest) or rest not in rests:
        return None
    situation = (rest, -1, -1)
    for deed in deeds:
        if situation is None or not _has_form(deed):
            return None
        led = {known: other for known, other in scene.deeds_at(situation, words)}
        if deed not in led:
            return None
        situation = led[deed]
    if situation is not None:
        return None
    return (_count(deeds, LATE), _count(deeds, WRONG))


def _has_form(thing):
    if not isinstance(thing, tuple) or len(thing) == 0 or not isinstance(thing[0], str):
        return False
    return all([is_integer(part) for part in thing[1:]])


def _count(deeds, word):
    return len([deed for deed in deeds if deed[0] == word])


def least_barrier(scene, word):
    """Return a barrier of the least number of deeds with this word, or None if there is no story."""
    spread = Spread(scene, (word,))
    if not spread.pairs:
        return None
    many = sum(spread.pairs[0][0])
    heights = spread.heights
    return sorted([(situation, heights[situation]) for situation in heights if heights[situation] < many])


def is_barrier_against(scene, word, many, thing):
    """Tell whether a value is a barrier of a number of deeds with this word."""
    if not isinstance(thing, list) or not all([_has_height(scene, many, item) for item in thing]):
        return False
    heights = {situation: height for situation, height in thing}
    if len(heights) < len(thing) or not ascends(thing):
        return False
    if any([heights.get(beginning) != 0 for beginning in begin_situations(scene.task)]):
        return False
    for situation, height in thing:
        for deed, other in scene.deeds_at(situation, (word,)):
            behind = height + 1 if deed[0] == word else height
            # What is not in the list, or broken, stands as high as the number of deeds that are needed for it.
            if heights.get(other, many) > behind:
                return False
    return True


def _has_height(scene, many, thing):
    if not isinstance(thing, tuple) or len(thing) != 2 or not is_integer(thing[1]):
        return False
    return 0 <= thing[1] < many and scene.is_situation(thing[0])
