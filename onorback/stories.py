"""Stories of deeds of which the last one breaks a plan, and barriers, which show that there are none so short.

A word is that of the deeds that are counted, LATE or WRONG; words are some of these.
"""

from onorback.forms import ascends, is_content, is_integer
from onorback.lanes import followed, moved
from onorback.masks import first_number
from onorback.situations import LATE, WRONG, begin_situations


class Spread:
    """What is come to with so many late and wrong deeds, and with how few of both a plan breaks.

    reached is the dict from each pair (late, wrong) that was looked at, and did not break, to the mask of the spots
    to which one comes with at most so many deeds of both.
    """

    def __init__(self, lanes, most_late, most_wrong):
        self.reached = {}
        self._lanes = lanes
        self._most_late = min(most_late, lanes.most_late)
        self._most_wrong = min(most_wrong, lanes.most_wrong)
        self._late_moves = lanes.late_moves() if self._most_late > 0 else []
        self._wrong_moves = lanes.wrong_moves() if self._most_wrong > 0 else []
        self._next_late = 0

    def next_pair(self):
        """Return the next one, in ascending order, of the least pairs that break, or None."""
        while self._next_late <= self._most_late and self._most_wrong >= 0:
            late = self._next_late
            self._next_late += 1
            wrong = self._first_breaking(late)
            if wrong is not None:
                # With more late deeds only fewer wrong ones are of use.
                self._most_wrong = wrong - 1
                return (late, wrong)
        return None

    def _first_breaking(self, late):
        """Return the least number of wrong deeds that break with so many late ones, or None."""
        lanes = self._lanes
        most_wrong = self._most_wrong
        for wrong in range(most_wrong + 1):
            led = self._led_to(late, wrong)
            if led & ~lanes.let:
                return wrong
            self.reached[(late, wrong)] = followed(lanes.rows, lanes.begun | led & lanes.kept, lanes.kept)
        return None

    def _led_to(self, late, wrong):
        """Return the mask of the spots to which the last one of at most so many late and wrong deeds leads."""
        by_late = moved(self._late_moves, self.reached.get((late - 1, wrong), 0))
        return by_late | moved(self._wrong_moves, self.reached.get((late, wrong - 1), 0))

    def story_for(self, pair):
        """Return a story of a pair that was returned; it is made from its last deed to its first one."""
        late, wrong = pair
        spot = first_number(self._led_to(late, wrong) & ~self._lanes.let)
        deeds = []
        steps = 0
        while (late, wrong) != (0, 0):
            deed, spot, late, wrong = self._last_deed(spot, late, wrong)
            spot, steps = self._back_by_rows(spot, late, wrong)
            deeds.extend([deed] + [("step",)] * steps)
        lane, content = self._lanes.place_of(spot)
        rests = self._lanes.task[1]
        if lane < len(rests):
            return (content, deeds[::-1])
        index = lane - len(rests)
        way = self._lanes.ways[index]
        died = [("die",)] if steps else []
        return (way[0], [("order", index)] + [("step",)] * way.index(content) + died + deeds[::-1])

    def _last_deed(self, spot, late, wrong):
        """Return a late or wrong deed that leads to a spot, where from, and how many of both are ahead of it."""
        found = self._lanes.late_deed_to(spot, self.reached.get((late - 1, wrong), 0))
        if found is not None:
            return found + (late - 1, wrong)
        return self._lanes.wrong_deed_to(spot, self.reached[(late, wrong - 1)]) + (late, wrong - 1)

    def _back_by_rows(self, spot, late, wrong):
        """Return whence rows lead to a spot: where the last one of so many deeds leads, or runs begin; and how many."""
        # Fewer deeds do not lead here, or there would be a lesser pair: so runs begin here only if there are none.
        sources = self._lanes.begun | self._led_to(late, wrong)
        spots = 1 << spot
        steps = 0
        while not spots & sources:
            spots = moved(self._lanes.back_rows, spots)
            steps += 1
        return (first_number(spots & sources), steps)


def _spread_by(lanes, word):
    """Return the spread of deeds with this word alone."""
    if word == LATE:
        return Spread(lanes, lanes.most_late, 0)
    return Spread(lanes, 0, lanes.most_wrong)


def breaking_numbers(lanes):
    """Return the ascending list of the least pairs of numbers of late and of wrong deeds in stories."""
    spread = Spread(lanes, lanes.most_late, lanes.most_wrong)
    pairs = []
    pair = spread.next_pair()
    while pair is not None:
        pairs.append(pair)
        pair = spread.next_pair()
    return pairs


def least_number(lanes, word):
    """Return the least number of deeds with this word, and no other ones that are counted, in a story, or None."""
    pair = _spread_by(lanes, word).next_pair()
    if pair is None:
        return None
    return sum(pair)


def least_story(lanes, word):
    """Return a story with as few deeds with this word, and no other ones that are counted, or None."""
    return first_story(_spread_by(lanes, word))


def first_story(spread):
    """Return a story of the first pair of a spread, or None."""
    pair = spread.next_pair()
    if pair is None:
        return None
    return spread.story_for(pair)


def numbers_told(scene, words, thing):
    """Return the numbers of late and of wrong deeds if a value is a story with no others than these, or None."""
    bench, rests, _ = scene.task
    if not isinstance(thing, tuple) or len(thing) != 2 or not isinstance(thing[1], list):
        return None
    rest, deeds = thing
    if not is_content(bench, rest) or rest not in rests:
        return None
    situation = (rest, -1, -1)
    for deed in deeds:
        if situation is None or not _has_form(deed):
            return None
        led = {known: other for known, other in scene.deeds_at(situation, words)}
        if deed not in led:
            return None
        situation = led[deed]
    if situation is not None:
        return None
    return (_count(deeds, LATE), _count(deeds, WRONG))


def _has_form(thing):
    if not isinstance(thing, tuple) or len(thing) == 0 or not isinstance(thing[0], str):
        return False
    return all([is_integer(part) for part in thing[1:]])


def _count(deeds, word):
    return len([deed for deed in deeds if deed[0] == word])


def least_barrier(lanes, word):
    """Return a barrier of the least number of deeds with this word, or None if there is no story."""
    spread = _spread_by(lanes, word)
    pair = spread.next_pair()
    if pair is None:
        return None
    barrier = [(situation, 0) for situation in lanes.situations_at_work()]
    known = 0
    for height in range(sum(pair)):
        spots = spread.reached[(height, 0) if word == LATE else (0, height)]
        barrier.extend([(situation, height) for situation in lanes.situations_in(spots & ~known)])
        known = spots
    return sorted(barrier)


def is_barrier_against(scene, word, many, thing):
    """Tell whether a value is a barrier of a number of deeds with this word."""
    if not isinstance(thing, list) or not all([_has_height(scene, many, item) for item in thing]):
        return False
    heights = {situation: height for situation, height in thing}
    if len(heights) < len(thing) or not ascends(thing):
        return False
    if any([heights.get(beginning) != 0 for beginning in begin_situations(scene.task)]):
        return False
    for situation, height in thing:
        for deed, other in scene.deeds_at(situation, (word,)):
            behind = height + 1 if deed[0] == word else height
            # What is not in the list, or broken, stands as high as the number of deeds that are needed for it.
            if heights.get(other, many) > behind:
                return False
    return True


def _has_height(scene, many, thing):
    if not isinstance(thing, tuple) or len(thing) != 2 or not is_integer(thing[1]):
        return False
    return 0 <= thing[1] < many and scene.is_situation(thing[0])
