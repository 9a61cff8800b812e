"""[34] with [2]: two rests made one."""

import random
import unittest

from onorback.benches import either_order, slide_place
from onorback.errors import NoJoin
from onorback.joining import joined_rests
from tests import reference, samples

A, B, C, D = (0, 0), (0, 1), (1, 0), (1, 1)


def joined(task, lots, one, other):
    """The joined task and lots, or None, from the words of the document."""
    kept, moved = [lot for rest, lot in zip(task[1], lots) if rest == one], []
    moved = [lot for rest, lot in zip(task[1], lots) if rest == other]
    both = sorted(kept[0] + moved[0])
    if any(reference.least_way(task[0], content, one, lambda c: c in both) is None for content in moved[0]):
        return None
    rests = [rest for rest in task[1] if rest != other]
    orders = []
    for start, goal, ends in task[2]:
        if start != other and goal != other:
            orders.append((start, goal, tuple(rest for rest in rests if rest in ends or rest == one and other in ends)))
    made = (task[0], tuple(rests), tuple(orders))
    lots = dict(zip(task[1], lots))
    return made, tuple(tuple(both) if rest == one else lots[rest] for rest in rests)


class JoiningTest(unittest.TestCase):
    def refused(self, task, lots, one, other):
        with self.assertRaises(NoJoin) as caught:
            joined_rests(task, lots, one, other)
        self.assertEqual(vars(caught.exception), {})

    def test_small_ones(self):
        task = (samples.BITS, (A, B, D), (either_order(A, B), (A, D, (A, B, D)), (D, A, (B,)), (D, B, ())))
        lots = ((A, C), (B,), (D,))
        self.assertEqual(joined_rests(task, lots, A, B),
                         ((samples.BITS, (A, D), ((A, D, (A, D)), (D, A, (A,)))), ((A, B, C), (D,))))
        self.assertEqual(joined_rests(task, lots, B, A),
                         ((samples.BITS, (B, D), ((D, B, ()),)), ((A, B, C), (D,))))
        self.assertEqual(joined_rests(task, lots, B, D),
                         ((samples.BITS, (A, B), (either_order(A, B),)), ((A, C), (B, D))))

    def test_an_order_past_the_rest_that_goes(self):
        task = (samples.BITS, (A, B, D), ((A, D, (B,)),))
        made = ((samples.BITS, (A, D), ((A, D, (A,)),)), ((A, B), (D,)))
        self.assertEqual(joined_rests(task, ((A,), (B,), (D,)), A, B), made)
        self.assertTrue(reference.is_model(*made))

    def test_ends_have_no_rest_twice_and_ascend(self):
        task = (samples.BITS, (A, B, C, D), ((B, C, (A, D)), (C, B, (A, B, D))))
        lots = ((A,), (B,), (C,), (D,))
        self.refused(task, lots, A, D)
        task = (samples.BITS, (A, B, D), ((A, B, (D,)), (B, A, (A, D))))
        self.assertEqual(joined_rests(task, ((A, C), (B,), (D,)), A, D)[0], (samples.BITS, (A, B), ((A, B, (A,)), (B, A, (A,)))))
        self.assertEqual(joined_rests(task, ((A,), (B,), (C, D)), A, D)[1], ((A, C, D), (B,)))

    def test_lots_that_do_not_touch(self):
        task = ((slide_place(5),), ((0,), (4,)), ())
        self.refused(task, (((0,),), ((3,), (4,))), (0,), (4,))
        self.refused(task, (((0,), (1,)), ((3,), (4,))), (4,), (0,))
        self.assertEqual(joined_rests(task, (((0,), (1,)), ((2,), (3,), (4,))), (4,), (0,)),
                         ((task[0], ((4,),), ()), (((0,), (1,), (2,), (3,), (4,)),)))

    def test_steps_lead_only_one_way(self):
        bench = ((4, ((0, 1), (1, 2), (2, 1), (3, 2))),)
        task = (bench, ((1,), (2,)), ())
        lots = (((0,), (1,)), ((2,), (3,)))
        self.assertEqual(joined_rests(task, lots, (1,), (2,)), ((bench, ((1,),), ()), (((0,), (1,), (2,), (3,)),)))
        bench = ((4, ((0, 1), (1, 2), (3, 2))),)
        task = (bench, ((1,), (2,)), ())
        self.refused(task, lots, (1,), (2,))
        self.assertEqual(joined_rests(task, lots, (2,), (1,)), ((bench, ((2,),), ()), (((0,), (1,), (2,), (3,)),)))

    def test_ordinary_ones(self):
        rng = random.Random(83)
        seen = {True: 0, False: 0}
        models = 0
        for _ in range(250):
            task, lots = samples.random_lotted(rng)
            if len(task[1]) < 2:
                continue
            one, other = rng.sample(task[1], 2)
            expected = joined(task, lots, one, other)
            seen[expected is None] += 1
            if expected is None:
                self.refused(task, lots, one, other)
                continue
            made = joined_rests(task, lots, one, other)
            self.assertEqual(made, expected)
            self.assertEqual(joined_rests(task, lots, one, other), made)
            self.assertTrue(reference.is_task(made[0]) and reference.is_lots(*made))
            if reference.is_model(task, lots):
                models += 1
                self.assertTrue(reference.is_model(*made))
        self.assertTrue(min(seen.values()) > 40 and models > 20, (seen, models))


if __name__ == "__main__":
    unittest.main()
