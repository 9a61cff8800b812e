"""Logs: one place more beside a two-way bench, all of whose contents are rests.

Layers tell in whose lot each content lies, for each value of the log but 0.
"""

from onorback.benches import contents_of, either_order, free_place, with_orders
from onorback.forms import is_content, leads
from onorback.masks import are_model

MOST_LAYERS = 5


def log_task(bench, couples, many):
    """Return the task of a bench with a log of so many values, and the orders of some couples, both ways."""
    orders = []
    for one, other in couples:
        orders.append(either_order(one + (0,), other + (0,)))
        orders.append(either_order(other + (0,), one + (0,)))
    rests = tuple([content + (0,) for content in contents_of(bench)])
    return with_orders((bench + (free_place(many),), rests, ()), orders)


def bears_couples(bench, couples, thing):
    """Tell whether a value is layers that bear some couples."""
    if not _is_layers(bench, thing):
        return False
    if not thing:
        return stand_beside(bench, couples)
    # Lots of layers hang together just if all parts come to their centres, and serve what the layers bear.
    return are_model(log_task(bench, couples, len(thing) + 1), lots_of_layers(bench, thing))


def _is_layers(bench, thing):
    if not isinstance(thing, tuple) or len(thing) > MOST_LAYERS:
        return False
    many = len(contents_of(bench))
    if [layer for layer in thing if not isinstance(layer, tuple) or len(layer) != many]:
        return False
    return all([centre is None or is_content(bench, centre) for layer in thing for centre in layer])


def stand_beside(bench, couples):
    """Tell whether all couples stand beside each other, so that no log is needed."""
    return all([leads(bench, one, other) for one, other in couples])


def lots_of_layers(bench, layers):
    """Return the lots of the task with a log that layers tell."""
    contents = contents_of(bench)
    lots = {content: [content + (0,)] for content in contents}
    for at, content in enumerate(contents):
        for k, layer in enumerate(layers):
            if layer[at] is not None:
                lots[layer[at]].append(content + (k + 1,))
    return tuple([tuple(sorted(lots[content])) for content in contents])


def layers_of_lots(bench, many, lots):
    """Return the layers that tell the lots of a task with a log of so many values."""
    contents = contents_of(bench)
    centres = {}
    for centre, lot in zip(contents, lots):
        for content in lot:
            centres[content] = centre
    return tuple([tuple([centres.get(content + (value,)) for content in contents]) for value in range(1, many)])


def cover_layers(bench, cover):
    """Return the layers in each of which one member of a cover is the centre of all contents."""
    many = len(contents_of(bench))
    return tuple([(centre,) * many for centre in cover])
