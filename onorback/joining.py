"""Two rests of a task made one, with their lots."""

from onorback.benches import steps_home
from onorback.errors import NoJoin


def joined_rests(task, lots, one, other):
    """Return the task and the lots in which the rest other has become part of the lot of one."""
    bench, rests, orders = task
    moved = lots[rests.index(other)]
    both = tuple(sorted(lots[rests.index(one)] + moved))
    home = steps_home(bench, both, one)
    if any([content not in home for content in moved]):
        raise NoJoin()
    kept = [order for order in orders if other not in order[:2]]
    made = (
        bench,
        tuple([rest for rest in rests if rest != other]),
        tuple([(start, goal, _renamed(ends, one, other)) for start, goal, ends in kept]),
    )
    joined = [both if rest == one else lot for rest, lot in zip(rests, lots) if rest != other]
    return (made, tuple(joined))


def _renamed(ends, one, other):
    return tuple(sorted(set([one if end == other else end for end in ends])))
