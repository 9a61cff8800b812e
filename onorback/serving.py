"""How lots serve orders: what forms and models both ask."""

from onorback.benches import way_inside


def lots_of_rests(task, lots, rests):
    """Return the list of all contents in the lots of these rests."""
    found = []
    for rest, lot in zip(task[1], lots):
        if rest in rests:
            found.extend(lot)
    return found


def serving_way(task, lots, index):
    """Return the least of the shortest ways of an order through lots of its ends, or None."""
    start, goal, ends = task[2][index]
    return way_inside(task[0], start, goal, lots_of_rests(task, lots, ends))
