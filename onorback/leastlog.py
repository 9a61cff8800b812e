"""The least log by which couples can be kept, and the least contents that meet all couples."""

from itertools import combinations

from onorback.finding import find_model
from onorback.logs import layers_of_lots, log_task, stand_beside


def least_values(bench, couples, most):
    """Return the least number of values of a log by which couples can be kept, and its layers, or None."""
    if stand_beside(bench, couples):
        return (1, ())
    for many in range(2, most + 1):
        model = find_model(log_task(bench, couples, many))
        if model is not None:
            return (many, layers_of_lots(bench, many, model))
    return None


def least_meeting(couples):
    """Return the least of the smallest ascending tuples of contents that have a member of each couple."""
    contents = sorted(set([content for couple in couples for content in couple]))
    for many in range(len(contents)):
        for chosen in combinations(contents, many):
            if all([one in chosen or other in chosen for one, other in couples]):
                return chosen
    return ()
