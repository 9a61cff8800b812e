"""Contents of a bench as numbers, and sets of them as masks: integers with a bit for each number.

Numbers ascend as contents do, so that the least way by numbers is the least one by contents.
"""

from onorback.benches import contents_of


class Ground:
    """The contents of a bench, and for each, by its number, the masks of what is a step ahead and behind."""

    def __init__(self, bench):
        self.contents = contents_of(bench)
        self.numbers = {content: number for number, content in enumerate(self.contents)}
        self.ahead = [0] * len(self.contents)
        self.behind = [0] * len(self.contents)
        apart = len(self.contents)
        for place, (many, moves) in enumerate(bench):
            # So far apart are the numbers of contents whose values differ by one at this place.
            apart = apart // many
            leaps = [[(w - v) * apart for v, w in moves if v == value] for value in range(many)]
            for number, content in enumerate(self.contents):
                for leap in leaps[content[place]]:
                    self.ahead[number] |= 1 << (number + leap)
                    self.behind[number + leap] |= 1 << number

    def mask_of(self, contents):
        """Return the mask of some contents."""
        mask = 0
        for content in contents:
            mask |= 1 << self.numbers[content]
        return mask

    def contents_in(self, mask):
        """Return the ascending tuple of the contents in a mask."""
        return tuple([self.contents[number] for number in numbers_in(mask)])


def first_number(mask):
    """Return the least number in a mask that is not empty."""
    return (mask & -mask).bit_length() - 1


def numbers_in(mask):
    """Return the ascending list of the numbers in a mask."""
    found = []
    while mask:
        found.append(first_number(mask))
        mask = mask & (mask - 1)
    return found


def flooded(masks, some, inside):
    """Return the mask of some, and of all to which masks lead from there within a mask."""
    reached = some
    fresh = some
    while fresh:
        more = masks[first_number(fresh)] & inside & ~reached
        fresh = (fresh & (fresh - 1)) | more
        reached |= more
    return reached


def is_led(ground, one, other, inside):
    """Tell whether steps lead from one number to another one, with all between them in a mask."""
    reached = 0
    fresh = 1 << one
    goal = 1 << other
    while fresh:
        ahead = ground.ahead[first_number(fresh)]
        if ahead & goal:
            return True
        more = ahead & inside & ~reached
        fresh = (fresh & (fresh - 1)) | more
        reached |= more
    return False


def least_numbers(ground, one, other, inside):
    """Return the numbers, in a list, of the least of the shortest ways with all between in a mask; there is one."""
    layers = _layers_to(ground, one, other, inside)
    way = [one]
    # The layers ahead of the last one: each has what is one step nearer to the goal.
    for layer in reversed(layers[:-1]):
        way.append(first_number(ground.ahead[way[-1]] & layer))
    return way


def _layers_to(ground, one, other, inside):
    """Return the list of the masks of what is 0, 1 and more steps away from other, up to one."""
    layers = [1 << other]
    left = (inside | (1 << one)) & ~layers[0]
    while not layers[-1] & (1 << one):
        layer = 0
        for number in numbers_in(layers[-1]):
            layer |= ground.behind[number]
        layers.append(layer & left)
        left = left & ~layer
    return layers
