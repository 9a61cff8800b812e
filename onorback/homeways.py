"""The way home within lots: how long it is, and which contents of a model are spare."""

from onorback.benches import steps_home
from onorback.masks import LotMasks, numbers_in


def home_steps(task, lots):
    """Return the dict from the contents of lots to the least number of steps within a lot to its rest."""
    steps = {}
    for lot, rest in zip(lots, task[1]):
        home = steps_home(task[0], lot, rest)
        for content in lot:
            steps[content] = home[content]
    return {content: steps[content] for content in sorted(steps)}


def longest_home(task, lots):
    """Return the greatest of the numbers of home_steps."""
    return max(list(home_steps(task, lots).values()))


def spare_contents(task, lots):
    """Return the ascending list of the contents of a model without each of which it still is one."""
    masks = LotMasks(task, lots)
    return [masks.ground.contents[number] for number in _numbers_held(masks) if _is_spare(masks, number)]


def tight_model(task, lots):
    """Return what is left of a model when the least spare content is left out, until none is spare."""
    masks = LotMasks(task, lots)
    number = _least_spare(masks)
    while number is not None:
        k = _place_of(masks, number)
        masks.lots[k] = masks.lots[k] ^ (1 << number)
        number = _least_spare(masks)
    return tuple([masks.ground.contents_in(lot) for lot in masks.lots])


def _numbers_held(masks):
    return numbers_in(sum(masks.lots))


def _least_spare(masks):
    for number in _numbers_held(masks):
        if _is_spare(masks, number):
            return number
    return None


def _is_spare(masks, number):
    k = _place_of(masks, number)
    if not masks.leads_home(k, masks.lots[k] ^ (1 << number)):
        return False
    return all([masks.serve(order, 1 << number) for order in masks.orders])


def _place_of(masks, number):
    return [k for k, lot in enumerate(masks.lots) if lot & (1 << number)][0]
