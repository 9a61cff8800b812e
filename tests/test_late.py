"""[56] with [13], [3] and [4]: late distances, late stories, barriers."""

import random
import unittest

from onorback.benches import either_order, free_place, slide_place
from onorback.errors import NoReturn, NotKept
from onorback.late import barrier_of, is_barrier, late_deeds_in, late_distance, late_story
from tests import breaking, samples
from tests.breaking import A, B, C
from tests.test_situations import sort_of

STEP, DIE = ("step",), ("die",)
D, E = (3,), (4,)
ENDS = (A, E)
# The example behind [60]: two late deeds break, as each order leads over half of the line.
LONG = (((slide_place(5),), ENDS, (either_order(A, E), either_order(E, A))),
        (((B, A), (C, B), (D, E)), ((A, B, C, D, E), (E, D, C, B, A))))


class LateTest(breaking.Breaking, unittest.TestCase):
    word = "late"
    distance, story, numbers = staticmethod(late_distance), staticmethod(late_story), staticmethod(late_deeds_in)
    barrier, is_barrier = staticmethod(barrier_of), staticmethod(is_barrier)

    def test_small_ones(self):
        task, plan = breaking.LINE
        self.assertEqual(late_distance(task, plan), 1)
        self.assertEqual(late_deeds_in(task, plan, (C, [("late", 1, 0)])), 1)
        self.assertEqual(late_deeds_in(task, plan, (A, [("late", 0, 0), ("late", 0, 1)])), 2)
        self.assertEqual(late_deeds_in(task, plan, (A, [("order", 0), STEP, DIE, STEP, ("late", 0, 0),
                                                        ("late", 0, 1)])), 2)
        self.assertEqual(late_distance(*LONG), 2)

    def test_no_stories(self):
        task, plan = breaking.LINE
        late = ("late", 1, 0)
        for thing in [(C, []), (C, [STEP]), (C, [late, late]), (C, [late, STEP]), (A, [late]), (B, [late]), (D, [late]),
                      (C, [("late", 1, 1)]), (C, [("late", 1, 2)]), (C, [("late", 0, 2)]), (C, [("late", 2, 0)]),
                      (C, [("late", -1, 0)]), (C, [("late", 1, -3)]), (C, [("late", True, 0)]),
                      (C, [("late", 1, False)]), ((2.0,), [late]), (C, [("late", 1)]), (C, [("late", 1, 0, 0)]),
                      (C, [["late", 1, 0]]), (C, (late,)), [C, [late]], (C, [("order", 0), late]),
                      (C, [("order", 1), late]), (C, [DIE, late]), (C, [("wrong", 0, 1)]), (C, [("wrong", 0, 1), late]),
                      (C, [("Late", 1, 0)]), (C, [("step", 1)])]:
            self.assertIsNone(late_deeds_in(task, plan, thing), thing)
        self.assertEqual(late_deeds_in(task, plan, (C, [late])), 1)
        self.assertEqual(late_deeds_in(task, plan, (C, [("order", 1), DIE, late])), 1)

    def test_barriers(self):
        task, plan = breaking.LINE
        self.assertEqual(barrier_of(task, plan), sorted(barrier_of(task, plan)))
        self.assertEqual({height for _, height in barrier_of(task, plan)}, {0})
        barrier = barrier_of(*LONG)
        self.assertEqual({height for _, height in barrier}, {0, 1})
        self.assertIs(is_barrier(*LONG, 2, barrier), True)
        self.assertIs(is_barrier(*LONG, 1, barrier), False)
        self.assertIs(is_barrier(*LONG, 3, barrier), False)
        for k, (situation, height) in enumerate(barrier):
            self.assertIs(is_barrier(*LONG, 2, barrier[:k] + [(situation, True)] + barrier[k + 1:]), False)
            both = sorted(barrier + [(situation, 1 - height)])
            self.assertIs(is_barrier(*LONG, 2, both), False)

    def test_a_barrier_may_have_situations_that_are_not_come_to(self):
        task, plan = breaking.LINE
        barrier = barrier_of(task, plan)
        # With nothing under way at (1,), which only a late deed leads to.
        more = sorted(barrier + [((B, -1, -1), 0)])
        self.assertIs(is_barrier(task, plan, 1, more), True)
        # The home of (1,) by another rule is no end of the order that is under way.
        task = ((free_place(4),), (A, B, C), (either_order(A, B), either_order(B, A)))
        plan = (((D, C),), ((A, B), (B, A)))
        barrier = barrier_of(task, plan)
        self.assertIs(is_barrier(task, plan, 1, barrier), True)
        self.assertIs(is_barrier(task, plan, 1, sorted(barrier + [((D, -1, -1), 0)])), True)
        self.assertIs(is_barrier(task, plan, 1, sorted(barrier + [((D, 0, -1), 0)])), False)

    def test_tasks_without_orders(self):
        for task, plan in [breaking.ALONE, breaking.STUCK, (((free_place(4),), (A, B, C), ()), (((D, C),), ()))]:
            for ask in [late_distance, late_story, barrier_of]:
                self.assertIsNone(ask(task, plan))
            self.assertIsNone(late_deeds_in(task, plan, (task[1][0], [])))
            self.assertIs(is_barrier(task, plan, 1, [((rest, -1, -1), 0) for rest in task[1]]), True)

    def test_orders_that_do_not_come_back(self):
        bench, rests = (free_place(4),), (A, B, C)
        for orders, index in [(((A, B, ()),), 0), (((A, B, (A,)),), 0), (((A, B, (B,)), (B, A, (C,))), 1),
                              (((A, B, (C,)), (B, A, ())), 0), (((A, B, ()), (B, C, ()), (C, B, ())), 0),
                              (((A, B, ()), (B, A, ()), (C, A, ())), 2), (((A, B, ()), (B, A, (A, B, C))), 1)]:
            task, plan = (bench, rests, orders), ((), tuple(order[:2] for order in orders))
            for ask in self.ask_all(task, plan, [None]):
                with self.assertRaises(NoReturn) as caught:
                    ask()
                self.assertEqual(vars(caught.exception), {"index": index})
        for orders in [((A, B, ()), (B, A, ())), ((A, B, (A, B, C)), (B, C, ()), (C, A, (B,))),
                       ((A, B, (A,)), (B, A, (B,)))]:
            self.assertEqual(late_distance((bench, rests, orders), ((), tuple(order[:2] for order in orders))), 1)
        # What a plan does not keep is told first, whichever order has the less index.
        task = (bench, rests, ((A, B, (A,)), (C, A, ())))
        with self.assertRaises(NotKept) as caught:
            late_distance(task, ((), ((A, B), (C, B, A))))
        self.assertEqual(vars(caught.exception), {"index": 1})

    def test_guarantees(self):
        rng = random.Random(171)
        seen = {"on": 0, "either": 0}
        for k in range(1000):
            task, plan = samples.sturdy_kept(rng) if k % 2 else samples.random_kept(rng, 12, 6)
            distance = late_distance(task, plan)
            self.assertEqual(distance is None, not task[2])
            sorts = [sort_of(order) for order in task[2]]
            if "on" in sorts:
                seen["on"] += 1
                self.assertEqual(distance, 1)
            elif sorts and set(sorts) == {"either"}:
                seen["either"] += distance > 1
                many = len(samples.contents(task[0]))
                self.assertGreaterEqual(many, len(task[1]) + (distance - 1) * len(task[2]))
        self.assertGreater(min(seen.values()), 20, seen)


if __name__ == "__main__":
    unittest.main()
