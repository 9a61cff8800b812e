"""[63] with [2], [6], [3] and find_model of [37]: two tasks beside each other."""

import random
import unittest
from itertools import product

from onorback.benches import either_order, free_place, slide_place, with_orders
from onorback.errors import TooMany
from onorback.finding import find_model
from onorback.forms import is_model, is_plan, is_task
from onorback.judging import broken_orders, keeps_order, keeps_task
from onorback.models import model_of, plan_of
from onorback.reader import read_task
from onorback.sides import both_order, both_way, room_word, side_model, side_plan, side_task
from tests import reference, samples
from tests.thresholds import THRESHOLDS

A, B, C = (0,), (1,), (2,)
LINE = (slide_place(3),)
EITHER = (LINE, (A, C), (either_order(A, C),))
# Neither order leaves the content between to the other one: there is no model.
CROSSED = (LINE, (A, C), ((A, C, (A,)), (C, A, (C,))))
# The content between is a rest that is no end.
BARRED = (LINE, (A, B, C), (either_order(A, C),))
STILL = (((2, ()),), (A,), ())


def side_told(one, other):
    """The task of both, from all tuples that are orders of its rests."""
    rests = [r + q for r in one[1] for q in other[1]]
    many = len(one[0])
    orders = []
    for start, goal in product(rests, rests):
        for order in one[2]:
            if (start[:many], goal[:many]) == order[:2] and start[many:] == goal[many:]:
                orders.append((start, goal, tuple(sorted(e + start[many:] for e in order[2]))))
        for order in other[2]:
            if (start[many:], goal[many:]) == order[:2] and start[:many] == goal[:many]:
                orders.append((start, goal, tuple(sorted(start[:many] + e for e in order[2]))))
    return (one[0] + other[0], tuple(sorted(rests)), tuple(sorted(orders)))


def small_plans(rng, most=8):
    """A task with a plan, all, some or none of whose orders are kept."""
    if rng.random() < 0.4:
        return samples.random_kept(rng, most, 4, False)
    while True:
        task, plan = samples.random_planned(rng, most, 5)
        if len(task[2]) <= 6:
            return task, plan


class SidesTest(unittest.TestCase):
    def test_small_ones(self):
        self.assertEqual(both_order((samples.BITS, ((0, 0), (1, 1)), (((0, 0), (1, 1), ((1, 1),)),)), 0, EITHER, 0),
                         ((0, 0, 0), (1, 1, 2), ((1, 1, 0), (1, 1, 2))))
        told = side_task(EITHER, (LINE, (A, B), ((B, A, ()),)))
        rests = ((0, 0), (0, 1), (2, 0), (2, 1))
        self.assertEqual(told, (LINE + LINE, rests, (
            ((0, 0), (2, 0), ((0, 0), (2, 0))), ((0, 1), (0, 0), ()), ((0, 1), (2, 1), ((0, 1), (2, 1))),
            ((2, 1), (2, 0), ()))))
        self.assertEqual(side_model(EITHER, ((A, B), (C,)), STILL, ((A,),)), (((0, 0), (1, 0)), ((2, 0),)))
        plan = (((B, A),), ((A, B, C),))
        # The one comes home wherever the other bench lies.
        self.assertEqual(side_plan(EITHER, plan, STILL, ((), ())),
                         ((((1, 0), (0, 0)), ((1, 1), (0, 1))), (((0, 0), (1, 0), (2, 0)),)))

    def test_first_the_one_comes_home(self):
        plan = (((B, A),), ((A, B, C),))
        rule, ways = side_plan(EITHER, plan, EITHER, plan)
        self.assertEqual(rule, (((0, 1), (0, 0)), ((1, 0), (0, 0)), ((1, 1), (0, 1)), ((1, 2), (0, 2)),
                                ((2, 1), (2, 0))))
        self.assertEqual(ways, (((0, 0), (0, 1), (0, 2)), ((0, 0), (1, 0), (2, 0)), ((0, 2), (1, 2), (2, 2)),
                                ((2, 0), (2, 1), (2, 2))))
        # Without a row for the one nothing is done for the other.
        rule, _ = side_plan(EITHER, ((), plan[1]), EITHER, plan)
        self.assertEqual(rule, (((0, 1), (0, 0)), ((2, 1), (2, 0))))

    def test_tasks_told_anew(self):
        rng = random.Random(201)
        for _ in range(120):
            one, other = samples.random_task(rng, None, 8), samples.random_task(rng, None, 8)
            before = repr((one, other))
            told = side_task(one, other)
            self.assertEqual(told, side_told(one, other))
            self.assertTrue(is_task(told))
            if len(told[0]) <= 4:
                self.assertTrue(reference.is_task(told))
            self.assertEqual(side_task(one, other), told)
            self.assertEqual(repr((one, other)), before)

    def test_models_told_anew(self):
        rng = random.Random(202)
        many = 0
        while many < 60:
            (one, plan), (other, its_plan) = [samples.random_kept(rng, 8, 4, False) for _ in range(2)]
            model, its_model = model_of(one, plan), model_of(other, its_plan)
            told = side_model(one, model, other, its_model)
            task = side_task(one, other)
            lots = []
            for rest in task[1]:
                r, q = rest[:len(one[0])], rest[len(one[0]):]
                lot, its_lot = model[one[1].index(r)], its_model[other[1].index(q)]
                lots.append(tuple(sorted(c + d for c in lot for d in its_lot)))
            self.assertEqual(told, tuple(lots))
            self.assertIs(is_model(task, told), True)
            self.assertTrue(keeps_task(task, plan_of(task, told)))
            many += 1

    def test_plans_told_anew(self):
        rng = random.Random(203)
        seen = {True: 0, False: 0}
        for _ in range(120):
            (one, plan), (other, its_plan) = small_plans(rng), small_plans(rng)
            task = side_task(one, other)
            told = side_plan(one, plan, other, its_plan)
            rows, its_rows = dict(plan[0]), dict(its_plan[0])
            rule = []
            for c, d in product(samples.contents(one[0]), samples.contents(other[0])):
                if c in rows:
                    rule.append((c + d, rows[c] + d))
                elif c in one[1] and d in its_rows:
                    rule.append((c + d, c + its_rows[d]))
            self.assertEqual(told[0], tuple(rule))
            self.assertIs(is_plan(task, told), True)
            for k, (start, goal, _) in enumerate(task[2]):
                r, q = start[:len(one[0])], start[len(one[0]):]
                if q == goal[len(one[0]):]:
                    index = [order[:2] for order in one[2]].index((r, goal[:len(one[0])]))
                    way, kept = tuple(c + q for c in plan[1][index]), keeps_order(one, plan, index)
                else:
                    index = [order[:2] for order in other[2]].index((q, goal[len(one[0]):]))
                    way, kept = tuple(r + d for d in its_plan[1][index]), keeps_order(other, its_plan, index)
                self.assertEqual(told[1][k], way)
                self.assertIs(keeps_order(task, told, k), kept)
                seen[kept] += 1
        self.assertGreater(min(seen.values()), 100, seen)

    def test_orders_of_both(self):
        rng = random.Random(204)
        seen = {}
        for _ in range(1200):
            (one, plan), (other, its_plan) = small_plans(rng), small_plans(rng)
            if not one[2] or not other[2]:
                continue
            index, its_index = rng.randrange(len(one[2])), rng.randrange(len(other[2]))
            (s, g, ends), (t, h, its_ends) = one[2][index], other[2][its_index]
            told = both_order(one, index, other, its_index)
            expected = {e + t for e in ends} | {g + t} | {g + e for e in its_ends}
            self.assertEqual(told, (s + t, g + h, tuple(sorted(expected))))
            way = both_way(one, plan, index, other, its_plan, its_index)
            first, then = plan[1][index], its_plan[1][its_index]
            self.assertEqual(way, tuple(c + t for c in first) + tuple(g + d for d in then[1:]))
            task = with_orders(side_task(one, other), [told])
            both = (side_plan(one, plan, other, its_plan)[0], (way,))
            self.assertTrue(is_task(task) and is_plan(task, both))
            kept = keeps_task(task, both)
            each = keeps_order(one, plan, index) and keeps_order(other, its_plan, its_index)
            exact = g in ends and t in its_ends
            if each or exact:
                self.assertIs(kept, each)
            seen[(each, kept, exact)] = seen.get((each, kept, exact), 0) + 1
        self.assertTrue(all(seen.get(key, 0) > 3 for key in [(True, True, True), (True, True, False),
                                                             (False, False, True),
                                                               (False, False, False), (False, True, False)]), seen)

    def test_room_words(self):
        self.assertEqual(room_word(EITHER, EITHER), "alone")
        self.assertEqual(room_word(STILL, STILL), "alone")
        self.assertEqual(room_word(CROSSED, STILL), "never")
        self.assertEqual(room_word(STILL, BARRED), "never")
        self.assertEqual(room_word(BARRED, BARRED), "never")
        # Round what the other bench rests at, there is room for both orders.
        two = ((free_place(2),), (A,), ())
        self.assertEqual(room_word(CROSSED, two), "beside")
        self.assertEqual(room_word(two, CROSSED), "beside")
        rng = random.Random(205)
        seen = {}
        for _ in range(150):
            one, other = samples.strung_task(rng), rng.choice([two, CROSSED, EITHER, samples.random_task(rng, None, 4)])
            if rng.random() < 0.5:
                one, other = other, one
            told = self.told_word(one, other)
            if told is None:
                continue
            self.assertEqual(room_word(one, other), told)
            seen[told] = seen.get(told, 0) + 1
        self.assertTrue(all(seen.get(word, 0) > 10 for word in ["alone", "beside", "never"]), seen)

    def told_word(self, one, other):
        try:
            models = [find_model(task) for task in (one, other, side_told(one, other))]
        except TooMany:
            return None
        return "alone" if models[0] and models[1] else "beside" if models[2] else "never"

    def too_many(self, one, other):
        with self.assertRaises(TooMany) as caught:
            room_word(one, other)
        self.assertEqual(vars(caught.exception), {"most": 1000})

    def test_too_many_cases(self):
        task = next(read_task(text) for many, _, text in THRESHOLDS if many > 1000)
        for other in [STILL, EITHER, CROSSED, task]:
            self.too_many(task, other)
            self.too_many(other, task)
        rng = random.Random(206)
        seen = {True: 0, False: 0}
        while min(seen.values()) < 3:
            one, other = samples.strung_task(rng), samples.strung_task(rng)
            alone = find_model(one) is not None and find_model(other) is not None
            try:
                find_model(side_task(one, other))
            except TooMany:
                # The task of both is asked only if not both have a model.
                seen[alone] += 1
                if alone:
                    self.assertEqual(room_word(one, other), "alone")
                else:
                    self.too_many(one, other)

    def test_large_ones(self):
        rng = random.Random(207)
        while True:
            task, plan = samples.random_kept(rng, 36, 12, False)
            if len(samples.contents(task[0])) > 30 and len(task[2]) > 4:
                break
        both = side_task(task, task)
        beside = side_plan(task, plan, task, plan)
        self.assertTrue(is_plan(both, beside) and keeps_task(both, beside))
        self.assertEqual(broken_orders(both, beside), [])
        self.assertIs(is_model(both, side_model(task, model_of(task, plan), task, model_of(task, plan))), True)


if __name__ == "__main__":
    unittest.main()
