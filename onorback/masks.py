"""Contents of a bench as numbers, sets of them as masks, which have a bit for each number; how lots serve orders.

Numbers ascend as contents do, so that the least way by numbers is the least one by contents.
"""

from onorback.benches import contents_of, steps_home, way_inside

MANY_CONTENTS = 100


def is_large(bench):
    """Tell whether a bench has so many contents that they are better not all gone through."""
    count = 1
    for many, _ in bench:
        count = count * many
        if count > MANY_CONTENTS:
            return True
    return False


class Ground:
    """The contents of a bench, and for each, by its number, the masks of what is a step ahead and behind."""

    def __init__(self, bench):
        self.contents = contents_of(bench)
        self.numbers = {content: number for number, content in enumerate(self.contents)}
        self.ahead = [0] * len(self.contents)
        self.behind = [0] * len(self.contents)
        apart = len(self.contents)
        for place, (many, moves) in enumerate(bench):
            # So far apart are the numbers of contents whose values differ by one at this place.
            apart = apart // many
            self._put_steps(place, apart, many, moves)

    def _put_steps(self, place, apart, many, moves):
        # For each value, what moves lead to and come from if the content has 0 at all other places.
        onward = [0] * many
        inward = [0] * many
        for v, w in moves:
            onward[v] |= 1 << (w * apart)
            inward[w] |= 1 << (v * apart)
        for number, content in enumerate(self.contents):
            value = content[place]
            self.ahead[number] |= onward[value] << (number - value * apart)
            self.behind[number] |= inward[value] << (number - value * apart)

    def numbered(self, rests, orders):
        """Return the list of the orders with numbers for start and goal, and for their ends their places in rests."""
        made = []
        for start, goal, ends in orders:
            made.append((self.numbers[start], self.numbers[goal], [rests.index(end) for end in ends]))
        return made

    def mask_of(self, contents):
        """Return the mask of some contents."""
        mask = 0
        for content in contents:
            mask |= 1 << self.numbers[content]
        return mask

    def contents_in(self, mask):
        """Return the ascending tuple of the contents in a mask."""
        return tuple([self.contents[number] for number in numbers_in(mask)])


def first_number(mask):
    """Return the least number in a mask that is not empty."""
    return (mask & -mask).bit_length() - 1


def numbers_in(mask):
    """Return the ascending list of the numbers in a mask."""
    found = []
    while mask:
        found.append(first_number(mask))
        mask = mask & (mask - 1)
    return found


def flooded(masks, some, inside):
    """Return the mask of some, and of all to which masks lead from there within a mask."""
    reached = some
    fresh = some
    while fresh:
        more = masks[first_number(fresh)] & inside & ~reached
        fresh = (fresh & (fresh - 1)) | more
        reached |= more
    return reached


def is_led(ground, one, other, inside):
    """Tell whether steps lead from one number to another one, with all between them in a mask."""
    reached = 0
    fresh = 1 << one
    goal = 1 << other
    while fresh:
        ahead = ground.ahead[first_number(fresh)]
        if ahead & goal:
            return True
        more = ahead & inside & ~reached
        fresh = (fresh & (fresh - 1)) | more
        reached |= more
    return False


def least_numbers(ground, one, other, inside):
    """Return the numbers, in a list, of the least of the shortest ways with all between in a mask; there is one."""
    layers = _layers_to(ground, one, other, inside)
    way = [one]
    # The layers ahead of the last one: each has what is one step nearer to the goal.
    for layer in reversed(layers[:-1]):
        way.append(first_number(ground.ahead[way[-1]] & layer))
    return way


def _layers_to(ground, one, other, inside):
    """Return the list of the masks of what is 0, 1 and more steps away from other, up to one."""
    layers = [1 << other]
    left = (inside | (1 << one)) & ~layers[0]
    while not layers[-1] & (1 << one):
        layer = 0
        for number in numbers_in(layers[-1]):
            layer |= ground.behind[number]
        layers.append(layer & left)
        left = left & ~layer
    return layers


def lots_of_rests(task, lots, rests):
    """Return the list of all contents in the lots of these rests."""
    found = []
    for rest, lot in zip(task[1], lots):
        if rest in rests:
            found.extend(lot)
    return found


def serving_way(task, lots, index):
    """Return the least of the shortest ways of an order through lots of its ends, or None."""
    start, goal, ends = task[2][index]
    return way_inside(task[0], start, goal, lots_of_rests(task, lots, ends))


def hang_together(task, lots):
    """Tell whether in each of some lots its rest can be come to from each content."""
    bench, rests, _ = task
    if not is_large(bench):
        return LotMasks(task, lots).hang_together()
    return all([rest in lot and len(steps_home(bench, lot, rest)) == len(lot) for lot, rest in zip(lots, rests)])


def are_model(task, lots):
    """Tell whether some lots hang together and serve all orders."""
    if not is_large(task[0]):
        return LotMasks(task, lots).are_model()
    return hang_together(task, lots) and not [k for k in range(len(task[2])) if serving_way(task, lots, k) is None]


class LotMasks:
    """Lots as masks: contents of the bench, the rest of each lot among them, no content in two lots."""

    def __init__(self, task, lots):
        bench, rests, orders = task
        self.ground = Ground(bench)
        self.lots = [self.ground.mask_of(lot) for lot in lots]
        self.rests = [self.ground.numbers[rest] for rest in rests]
        self.orders = self.ground.numbered(rests, orders)

    def hang_together(self):
        """Tell whether in each lot its rest can be come to from each content."""
        return all([self.leads_home(k, lot) for k, lot in enumerate(self.lots)])

    def leads_home(self, k, inside):
        """Tell whether the rest at place k is in a mask, and can be come to from all of it within it."""
        return flooded(self.ground.behind, 1 << self.rests[k], inside) == inside

    def are_model(self):
        """Tell whether the lots hang together and serve all orders."""
        return self.hang_together() and all([self.serve(order, 0) for order in self.orders])

    def serve(self, order, gone):
        """Tell whether the lots serve a numbered order without what is in a mask."""
        start, goal, ends = order
        inside = sum([self.lots[k] for k in ends])
        return is_led(self.ground, start, goal, inside & ~gone)
