"""Contents, with what is under way, as bits of numbers, so that deeds lead many of them on at once.

Whether a deed breaks a plan is told by the contents and by what is under way: by the home with nothing under way,
otherwise by the order. So there is a LANE for each rest, of the contents with this home while nothing is under way,
and behind these one for each order, of the contents while it is under way. A SPOT is a content in a lane: the bit
with the number of the content, and with that of all contents more for each lane ahead.

Where in its way a first hand is makes no difference: it comes there, and dies there, without late or wrong deeds,
and these lead on from there as they do where it has died. So runs begin in the lane of an order at all contents of
its way but the last one.

MOVES are a list of tuples (mask, up, down): from each spot in the mask to that with a number greater by up, and less
by down.
"""

from onorback.benches import contents_of
from onorback.errors import NotKept
from onorback.masks import numbers_in
from onorback.situations import LATE, WRONG


class Lanes:
    """The lanes of a task with a plan that keeps it.

    begun is the mask of the spots where runs begin; let that of those to which deeds lead without breaking; kept that
    of those at which one is still in the same lane then. rows are the moves of next hands, back_rows the same ones the
    other way about. More late deeds than most_late, and more wrong ones than most_wrong, are never needed to break.
    """

    def __init__(self, task, plan):
        self.task = task
        self.ways = plan[1]
        self.contents = contents_of(task[0])
        self._wide = len(self.contents)
        self._numbers = {content: number for number, content in enumerate(self.contents)}
        self._many = len(task[1]) + len(task[2])
        self.rows = self._moves_by(plan[0])
        self.back_rows = [(mask << up >> down, down, up) for mask, up, down in self.rows]
        self._at_rest = self._mask_of(task[1])
        self._put_lanes()
        # With nothing under way, late deeds all along a way lead from its start to another home, its goal, and a wrong
        # deed for each place leads to any content.
        self.most_late = min([len(way) - 1 for way in self.ways]) if self.ways else 0
        self.most_wrong = len(task[0])

    def _put_lanes(self):
        _, rests, orders = self.task
        begun = [1 << self._numbers[rest] for rest in rests]
        let = self._lots_of(begun)
        kept = list(let)
        lots = {rest: lot for rest, lot in zip(rests, let)}
        for index, (start, goal, ends) in enumerate(orders):
            inner = self._mask_of(self.ways[index][1:-1])
            inside = 0
            for rest in ends:
                inside |= lots[rest]
            if inner & ~inside:
                raise NotKept(index)
            inside |= lots[start] | lots[goal]
            begun.append(inner | 1 << self._numbers[start])
            let.append(inside)
            # What comes to rest is in the lane of the rest then.
            kept.append(inside & ~self._at_rest)
        self.begun = self._joined(begun)
        self.let = self._joined(let)
        self.kept = self._joined(kept)

    def _mask_of(self, contents):
        mask = 0
        for content in contents:
            mask |= 1 << self._numbers[content]
        return mask

    def _lots_of(self, begun):
        """Return the list of the masks of the contents from which rows lead to each rest."""
        # All bits of -1 are set.
        lots = followed(self.back_rows, self._joined(begun), -1)
        return [self._part(lots, lane) for lane in range(len(begun))]

    def _joined(self, masks):
        """Return the mask of the spots whose contents are in the mask of each lane, from the first one on."""
        joined = 0
        for mask in reversed(masks):
            joined = joined << self._wide | mask
        return joined

    def _part(self, spots, lane):
        """Return the mask of the contents that a mask of spots has in a lane."""
        return spots >> (lane * self._wide) & ((1 << self._wide) - 1)

    def _moves_by(self, steps):
        """Return the moves, in each lane, by steps from a content to another one."""
        masks = {}
        for one, other in steps:
            number = self._numbers[one]
            apart = self._numbers[other] - number
            masks[apart] = masks.get(apart, 0) | 1 << number
        each = _repeated(self._wide, self._many)
        return [(masks[apart] * each, max(apart, 0), max(-apart, 0)) for apart in masks]

    def late_moves(self):
        """Return the moves of late hands."""
        return self._moves_by([(way[i], way[i + 1]) for way in self.ways for i in range(len(way) - 1)])

    def wrong_moves(self):
        """Return the moves of wrong hands: each place to each other value."""
        moves = []
        apart = self._wide
        for many, _ in self.task[0]:
            # Contents of which so many follow one another differ at this place and behind it alone.
            firsts = _repeated(apart, self._wide * self._many // apart)
            apart = apart // many
            for more in range(1, many):
                mask = ((1 << (apart * (many - more))) - 1) * firsts
                moves.append((mask, apart * more, 0))
                moves.append((mask << (apart * more), 0, apart * more))
        return moves

    def place_of(self, spot):
        """Return the lane and the content of a spot."""
        lane, number = divmod(spot, self._wide)
        return (lane, self.contents[number])

    def late_deed_to(self, spot, sources):
        """Return a late deed that leads to a spot from one in a mask, with the latter, or None."""
        lane, content = self.place_of(spot)
        for k, way in enumerate(self.ways):
            for i in range(len(way) - 1):
                if way[i + 1] == content and sources >> self._spot_of(lane, way[i]) & 1:
                    return ((LATE, k, i), self._spot_of(lane, way[i]))
        return None

    def wrong_deed_to(self, spot, sources):
        """Return a wrong deed that leads to a spot from one in a mask, with the latter, or None."""
        lane, content = self.place_of(spot)
        for place, (many, _) in enumerate(self.task[0]):
            for value in range(many):
                source = self._spot_of(lane, content[:place] + (value,) + content[place + 1:])
                if source != spot and sources >> source & 1:
                    return ((WRONG, place, content[place]), source)
        return None

    def _spot_of(self, lane, content):
        return lane * self._wide + self._numbers[content]

    def situations_at_work(self):
        """Return the list of the situations in which a first hand is at work."""
        return [(way[at], index, at) for index, way in enumerate(self.ways) for at in range(len(way) - 1)]

    def situations_in(self, spots):
        """Return the list of the situations at some spots in which no first hand is at work."""
        found = []
        for lane in range(self._many):
            part = self._part(spots, lane)
            index = -1
            if lane >= len(self.task[1]):
                index = lane - len(self.task[1])
                part = part & ~self._at_rest
            found.extend([(self.contents[number], index, -1) for number in numbers_in(part)])
        return found


def _repeated(apart, many):
    """Return the mask of as many bits, the first one being 0, each so far from the next one."""
    return ((1 << (apart * many)) - 1) // ((1 << apart) - 1)


def moved(moves, spots):
    """Return the mask of the spots to which moves lead from some spots."""
    found = 0
    for mask, up, down in moves:
        found |= (spots & mask) << up >> down
    return found


def followed(moves, spots, inside):
    """Return the mask of some spots, and of all to which moves lead from there within a mask."""
    reached = spots
    fresh = spots
    while fresh:
        fresh = moved(moves, fresh) & inside & ~reached
        reached |= fresh
    return reached
