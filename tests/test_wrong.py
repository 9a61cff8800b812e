"""[59] with [14], [3] and [4]: wrong deeds, wrong distances, wrong stories, wrong barriers."""

import random
import unittest

from onorback.benches import either_order, free_place
from onorback.wrong import (is_wrong_barrier, wrong_barrier_of, wrong_deeds_from, wrong_deeds_in, wrong_distance,
                            wrong_story)
from tests import breaking, hands, samples
from tests.breaking import A, B, C
from tests.hands import Hands

STEP, DIE = ("step",), ("die",)
D = (3,)
# Two rests as far from each other as can be; what is nearer to one of them is its lot.
CUBE = (free_place(2),) * 3
LOW, HIGH = (0, 0, 0), (1, 1, 1)
RULE = (((0, 0, 1), LOW), ((0, 1, 0), LOW), ((0, 1, 1), HIGH), ((1, 0, 0), LOW), ((1, 0, 1), HIGH), ((1, 1, 0), HIGH))
FAR = ((CUBE, (LOW, HIGH), (either_order(LOW, HIGH),)), (RULE, ((LOW, (0, 0, 1), (0, 1, 1), HIGH),)))


class WrongTest(breaking.Breaking, unittest.TestCase):
    word = "wrong"
    distance, story, numbers = staticmethod(wrong_distance), staticmethod(wrong_story), staticmethod(wrong_deeds_in)
    barrier, is_barrier = staticmethod(wrong_barrier_of), staticmethod(is_wrong_barrier)

    def test_small_ones(self):
        self.assertEqual(wrong_distance(*breaking.LINE), 1)
        self.assertEqual(wrong_distance(*FAR), 2)
        self.assertEqual(wrong_deeds_in(*FAR, (LOW, [("wrong", 0, 1), ("wrong", 2, 1)])), 2)
        self.assertEqual(wrong_deeds_in(*FAR, (LOW, [("wrong", 0, 1), STEP, ("wrong", 2, 1), ("wrong", 1, 1)])), 3)
        # While the order is under way a wrong step may lead to its start, its goal and its ends.
        ahead = [("order", 0), STEP]
        self.assertIsNone(wrong_deeds_in(*FAR, (LOW, ahead + [("wrong", 0, 1)])))
        self.assertEqual(wrong_deeds_from(*FAR, ((0, 0, 1), 0, 1)),
                         [(("wrong", 0, 1), ((1, 0, 1), 0, -1)), (("wrong", 1, 1), ((0, 1, 1), 0, -1)),
                          (("wrong", 2, 0), (LOW, -1, -1))])

    def test_no_stories(self):
        task, plan = breaking.LINE
        wrong = ("wrong", 0, 2)
        self.assertEqual(wrong_deeds_in(task, plan, (A, [wrong])), 1)
        self.assertEqual(wrong_deeds_in(task, plan, (A, [("order", 0), DIE, wrong])), 1)
        for thing in [(A, []), (A, [STEP]), (A, [wrong, wrong]), (A, [("wrong", 0, 0)]), (A, [("wrong", 0, 1)]),
                      (A, [("wrong", 0, 3)]), (A, [("wrong", 0, -1)]), (A, [("wrong", 1, 2)]), (A, [("wrong", -1, 2)]),
                      (A, [("wrong", False, 2)]), (A, [("wrong", 0)]), (A, [("wrong", 0, 2, 0)]),
                      (A, [["wrong", 0, 2]]), (C, [wrong]), (C, [("late", 1, 0)]), (A, [("late", 0, 0), wrong]),
                      (A, (wrong,)), (B, [wrong])]:
            self.assertIsNone(wrong_deeds_in(task, plan, thing), thing)
        self.assertEqual(wrong_deeds_in(task, plan, (A, [("wrong", 0, 1), wrong])), 2)
        self.assertIsNone(wrong_deeds_in(task, plan, (A, [("wrong", 0, 1), STEP])))

    def test_wrong_deeds(self):
        rng = random.Random(181)
        seen = {"breaks": 0, "rests": 0, "goes on": 0}
        for k in range(250):
            task, plan = samples.sturdy_kept(rng) if k % 3 == 0 else samples.random_kept(rng, 12, 7, False)
            told = Hands(task, plan)
            for situation in told.reached(("late", "wrong")):
                expected = [(deed, other) for deed, other in told.deeds(situation, ("wrong",)) if deed[0] == "wrong"]
                deeds = wrong_deeds_from(task, plan, situation)
                self.assertEqual((type(deeds), deeds), (list, expected))
                self.assertEqual(len(deeds), sum(place[0] - 1 for place in task[0]))
                for _, other in deeds:
                    seen["breaks" if other is None else "rests" if other[0] in task[1] else "goes on"] += 1
        self.assertGreater(min(seen.values()), 300, seen)

    def test_moves_do_not_matter(self):
        bench = ((3, ()), (2, ((0, 1),)))
        task, plan = (bench, ((0, 0), (0, 1)), ()), ((), ())
        self.assertEqual(wrong_deeds_from(task, plan, ((0, 1), -1, -1)),
                         [(("wrong", 0, 1), None), (("wrong", 0, 2), None), (("wrong", 1, 0), None)])
        self.assertEqual(wrong_distance(task, plan), 1)

    def test_one_rest_alone(self):
        task, plan = breaking.ALONE
        for ask in [wrong_distance, wrong_story, wrong_barrier_of]:
            self.assertIsNone(ask(task, plan))
        # Where contents have no home, there is something to break.
        task, plan = breaking.STUCK
        self.assertEqual((wrong_distance(task, plan), wrong_story(task, plan)), (1, (A, [("wrong", 0, 1)])))
        task = (CUBE, (LOW,), ())
        self.assertEqual(wrong_distance(task, (RULE[:2] + RULE[3:4], ())), 2)
        self.assertEqual(wrong_distance(task, (RULE[:2] + (((0, 1, 1), (0, 0, 1)),) + RULE[3:4], ())), 2)
        everywhere = RULE[:2] + (((0, 1, 1), (0, 0, 1)),) + RULE[3:4] + (((1, 0, 1), (0, 0, 1)), ((1, 1, 0), (0, 1, 0)))
        self.assertEqual(wrong_distance(task, (everywhere, ())), 3)
        self.assertIsNone(wrong_distance(task, (everywhere + ((HIGH, (0, 1, 1)),), ())))

    def test_none_just_where_nothing_breaks(self):
        rng = random.Random(182)
        seen = {True: 0, False: 0}
        for _ in range(400):
            task, plan = samples.random_kept(rng, 10, 5, False)
            homes = set(samples.homes_by(task, plan[0]).values())
            # Wrong steps lead everywhere at last; with nothing under way another home than that of the rest breaks.
            self.assertEqual(wrong_distance(task, plan) is None, len(homes) == 1)
            seen[len(homes) == 1] += 1
        self.assertGreater(min(seen.values()), 20, seen)

    def test_orders_need_not_come_back(self):
        rng = random.Random(183)
        many = 0
        while many < 40:
            task, plan = samples.random_kept(rng, 12, 6, False)
            if hands.first_without_return(task) is None:
                continue
            many += 1
            told = Hands(task, plan)
            distance = wrong_distance(task, plan)
            self.assertEqual(distance, told.distance("wrong"))
            self.assertEqual(wrong_deeds_in(task, plan, wrong_story(task, plan)), distance)
            self.assertIs(is_wrong_barrier(task, plan, distance, wrong_barrier_of(task, plan)), True)

    def test_barriers(self):
        barrier = wrong_barrier_of(*FAR)
        self.assertEqual({height for _, height in barrier}, {0, 1})
        self.assertIs(is_wrong_barrier(*FAR, 2, barrier), True)
        for many in [1, 3, 4, 10 ** 30]:
            self.assertIs(is_wrong_barrier(*FAR, many, barrier), False)
        for k in range(len(barrier)):
            self.assertIs(is_wrong_barrier(*FAR, 2, barrier[:k] + barrier[k + 1:]), False)


if __name__ == "__main__":
    unittest.main()
