"""[41] with PAIRS and two-way benches of [2], and with [7]."""

import random
import unittest

from onorback.benches import either_order, free_place, rise_place, slide_place
from onorback.errors import NotTwoWay
from onorback.sums import pairs_of, room_of, sum_fault
from tests import dealings, reference, samples

A, B, C, D = (0, 0), (0, 1), (1, 0), (1, 1)


def is_two_way(bench):
    steps = reference.steps(bench)
    return all((other, one) in steps for one, other in steps)


def room(task):
    near = set(task[1])
    for _ in samples.contents(task[0]):
        near |= {other for content in near for other in samples.next_ones(task[0], content)}
    steps = [step for step in reference.steps(task[0]) if step[0] in near and step[1] in near]
    return len(steps) // 2 - len(near) + len(task[1])


def fault(task):
    bench, rests, orders = task
    steps = reference.steps(bench)
    for rest in rests:
        many = sum(start == rest and set(ends) <= {goal} for start, goal, ends in orders)
        if many > sum(one == rest for one, _ in steps):
            return ("from", rest, many, sum(one == rest for one, _ in steps))
    for rest in rests:
        many = sum(goal == rest and set(ends) <= {start} for start, goal, ends in orders)
        if many > sum(other == rest for _, other in steps):
            return ("to", rest, many, sum(other == rest for _, other in steps))
    pairs = {frozenset((start, goal)) for start, goal, ends in orders if set(ends) <= {start, goal}}
    if is_two_way(bench) and len(pairs) > room(task):
        return ("room", len(pairs), room(task))
    return None


class SumsTest(unittest.TestCase):
    def test_pairs(self):
        rests = (A, B, C, D)
        orders = ((A, B, (A, B)), (A, C, (C,)), (B, A, (B,)), (B, D, ()), (C, A, (C, D)), (C, B, (A, B, C)), (D, B, (D,)))
        self.assertEqual(pairs_of((samples.BITS, rests, orders)), [(A, B), (A, C), (B, D)])
        self.assertEqual(pairs_of((samples.BITS, rests, ((D, A, (D,)),))), [(A, D)])
        self.assertEqual(pairs_of((samples.BITS, rests, ((D, A, (B,)), (D, B, (B, D))))), [(B, D)])
        self.assertEqual(pairs_of((samples.BITS, rests, ())), [])

    def test_rooms(self):
        self.assertEqual(room_of((samples.BITS, (A,), ())), 1)
        self.assertEqual(room_of((samples.BITS, (A, B, C, D), ())), 4)
        self.assertEqual(room_of(((slide_place(5),), ((0,), (4,)), ())), 1)
        # Rests that do not come to each other, and contents to which none comes.
        split = ((2, ()), free_place(3))
        self.assertEqual(room_of((split, ((0, 0), (0, 1)), ())), 2)
        self.assertEqual(room_of((split, ((0, 0), (1, 1)), ())), 2)
        self.assertEqual(room_of((split, ((0, 0),), ())), 1)
        self.assertEqual(room_of((((3, ()),), ((1,), (2,)), ())), 0)

    def test_benches_that_are_not_two_way(self):
        for bench in [(rise_place(2),), (free_place(2), rise_place(3)), ((3, ((0, 1), (1, 2), (2, 0))),)]:
            task = (bench, ((0,) * len(bench), (1,) * len(bench)), ())
            with self.assertRaises(NotTwoWay) as caught:
                room_of(task)
            self.assertEqual(vars(caught.exception), {})
            self.assertIsNone(sum_fault(task))

    def test_orders_from_a_rest(self):
        bench, rests = (free_place(2), free_place(4)), tuple((0, k) for k in range(4)) + ((1, 0),)
        on = tuple((rests[0], rest, (rest,)) for rest in rests[1:])
        self.assertIsNone(sum_fault((bench, rests, on)))
        bench = (free_place(2), slide_place(4))
        self.assertEqual(sum_fault((bench, rests, on)), ("from", (0, 0), 4, 2))
        self.assertEqual(sum_fault((bench, rests, on[1:])), ("from", (0, 0), 3, 2))
        self.assertIsNone(sum_fault((bench, rests, on[2:])))
        # An order without ends counts as well, and one with its start among its ends does not.
        self.assertEqual(sum_fault((bench, rests, ((rests[0], rests[1], ()),) + on[2:])), ("from", (0, 0), 3, 2))
        self.assertIsNone(sum_fault((bench, rests, ((rests[0], rests[1], (rests[0],)),) + on[2:])))
        self.assertIsNone(sum_fault((bench, rests, ((rests[0], rests[1], (rests[1], rests[2])),) + on[2:])))

    def test_orders_to_a_rest(self):
        bench, rests = (slide_place(4), free_place(2)), tuple((k, 0) for k in range(4)) + ((0, 1),)
        back = tuple((rest, rests[0], (rest,)) for rest in sorted(rests[1:]))
        self.assertEqual(sum_fault((bench, tuple(sorted(rests)), back)), ("to", (0, 0), 4, 2))
        self.assertEqual(sum_fault((bench, tuple(sorted(rests)), back[1:])), ("to", (0, 0), 3, 2))
        self.assertIsNone(sum_fault((bench, tuple(sorted(rests)), back[2:])))
        rise = (rise_place(4),)
        task = (rise, ((0,), (1,), (2,)), (((0,), (1,), ((0,),)), ((2,), (1,), ((2,),))))
        self.assertEqual(sum_fault(task), ("to", (1,), 2, 1))

    def test_the_first_of_several(self):
        line, rests = (slide_place(3),), ((0,), (1,), (2,))
        on = tuple((start, goal, (goal,)) for start in rests for goal in rests if start != goal)
        self.assertEqual(sum_fault((line, rests, on)), ("from", (0,), 2, 1))
        self.assertEqual(sum_fault((line, rests, on[2:])), ("from", (2,), 2, 1))
        back = tuple((start, goal, (start,)) for start, goal, _ in on)
        self.assertEqual(sum_fault((line, rests, back)), ("to", (0,), 2, 1))
        either = tuple(either_order(start, goal) for start, goal, _ in on)
        self.assertEqual(sum_fault((line, rests, either)), ("room", 3, 2))
        self.assertIsNone(sum_fault((line, rests, either[:1] + either[3:4])))
        mixed = on[:2] + back[2:3] + back[4:5]
        self.assertEqual(sum_fault((line, rests, mixed)), ("from", (0,), 2, 1))
        self.assertEqual(sum_fault((line, rests, mixed[1:])), ("to", (0,), 2, 1))

    def test_ordinary_tasks(self):
        rng = random.Random(84)
        seen = {}
        for _ in range(500):
            task = rng.choice([samples.random_task, samples.crowded_task])(rng)
            pairs = {tuple(sorted(order[:2])) for order in task[2] if set(order[2]) <= set(order[:2])}
            self.assertEqual(pairs_of(task), sorted(pairs))
            if is_two_way(task[0]):
                self.assertEqual(room_of(task), room(task))
            told = sum_fault(task)
            self.assertEqual(told, fault(task))
            word = None if told is None else told[0]
            seen[word] = seen.get(word, 0) + 1
        self.assertTrue(len(seen) == 4 and min(seen.values()) > 15, seen)

    def test_what_a_sum_bars_has_no_model(self):
        rng = random.Random(85)
        barred = 0
        for _ in range(300):
            task = samples.random_task(rng, None, 6)
            if sum_fault(task) is not None:
                barred += 1
                self.assertIs(dealings.has_model(task), False)
        self.assertGreater(barred, 30)

    def test_answers_may_be_changed(self):
        task = (samples.BITS, (A, D), (either_order(A, D),))
        pairs_of(task).clear()
        self.assertEqual(pairs_of(task), [(A, D)])


if __name__ == "__main__":
    unittest.main()
