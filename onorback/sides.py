"""Two tasks beside each other: one bench has the places of both."""

from onorback.benches import contents_of
from onorback.finding import find_model
from onorback.homes import rows_of


def side_task(one, other):
    """Return the task of both benches together, with the orders of each at all rests of the other one."""
    rests = tuple(_all_together(one[1], other[1]))
    orders = [order for order, _, _, _ in _orders_told(one, other)]
    return (one[0] + other[0], rests, tuple(orders))


def _all_together(some, others):
    return [content + beside for content in some for beside in others]


def _orders_told(one, other):
    """Return the ascending list of the tuples (order, which, index, rest) for all orders of both tasks.

    which is 0 for an order of the one, 1 for one of the other task; rest is where the other bench lies.
    """
    told = []
    for index, (start, goal, ends) in enumerate(one[2]):
        for rest in other[1]:
            told.append(((start + rest, goal + rest, tuple([end + rest for end in ends])), 0, index, rest))
    for index, (start, goal, ends) in enumerate(other[2]):
        for rest in one[1]:
            told.append(((rest + start, rest + goal, tuple([rest + end for end in ends])), 1, index, rest))
    return sorted(told)


def side_model(one, model, other, its_model):
    """Return the model of the task of both whose lots are those of both put together."""
    return tuple([tuple(_all_together(lot, its_lot)) for lot in model for its_lot in its_model])


def side_plan(one, plan, other, its_plan):
    """Return the plan of the task of both by which first the one comes home, and then the other one."""
    rows = rows_of(plan[0])
    its_rows = rows_of(its_plan[0])
    rule = []
    for content in contents_of(one[0]):
        for beside in contents_of(other[0]):
            if content in rows:
                rule.append((content + beside, rows[content] + beside))
            elif content in one[1] and beside in its_rows:
                rule.append((content + beside, content + its_rows[beside]))
    ways = []
    for _, which, index, rest in _orders_told(one, other):
        if which == 0:
            ways.append(tuple([content + rest for content in plan[1][index]]))
        else:
            ways.append(tuple([rest + content for content in its_plan[1][index]]))
    return (tuple(rule), tuple(ways))


def both_order(one, index, other, its_index):
    """Return the order that is first that of the one, then that of the other task."""
    start, goal, ends = one[2][index]
    its_start, its_goal, its_ends = other[2][its_index]
    both_ends = [end + its_start for end in ends] + [goal + its_start] + [goal + end for end in its_ends]
    return (start + its_start, goal + its_goal, tuple(sorted(set(both_ends))))


def both_way(one, plan, index, other, its_plan, its_index):
    """Return the way of the order of both that is first that of the one, then that of the other plan."""
    way = plan[1][index]
    its_way = its_plan[1][its_index]
    return tuple([content + its_way[0] for content in way] + [way[-1] + content for content in its_way[1:]])


def room_word(one, other):
    """Return the word for whether the tasks have models each alone, or at least beside each other."""
    model = find_model(one)
    its_model = find_model(other)
    if model is not None and its_model is not None:
        return "alone"
    if find_model(side_task(one, other)) is not None:
        return "beside"
    return "never"
