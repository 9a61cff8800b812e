"""[32] with LOTS, SERVE and MODEL of [2], and what [6] says of plans and models."""

import random
import unittest

from onorback.benches import either_order, free_place
from onorback.errors import NotKept, NotServed
from onorback.forms import is_lots, is_model, is_plan
from onorback.judging import keeps_task
from onorback.models import model_of, plan_of, rule_of, served_way, unserved_orders
from tests import reference, samples

A, B, C, D = (0, 0), (0, 1), (1, 0), (1, 1)
TASK = (samples.BITS, (A, D), (either_order(A, D), (D, A, (A,))))
LOTS = ((A, B), (D,))


class ModelsTest(unittest.TestCase):
    def test_served_ways(self):
        self.assertEqual(served_way(TASK, LOTS, 0), (A, B, D))
        self.assertEqual(served_way(TASK, LOTS, 1), (D, B, A))
        self.assertEqual(served_way(TASK, ((A,), (C, D)), 0), (A, C, D))
        self.assertEqual(served_way(TASK, ((A, B), (C, D)), 0), (A, B, D))
        self.assertIsNone(served_way(TASK, ((A,), (C, D)), 1))
        self.assertEqual(unserved_orders(TASK, LOTS), [])
        self.assertEqual(unserved_orders(TASK, ((A,), (B, D))), [1])
        self.assertEqual(unserved_orders(TASK, ((A,), (D,))), [0, 1])

    def test_one_step_is_served_without_ends(self):
        task = (samples.BITS, (A, B), ((A, B, ()), (B, A, ())))
        self.assertEqual(served_way(task, ((A,), (B,)), 0), (A, B))
        self.assertEqual(unserved_orders(task, ((A,), (B,))), [])
        task = (samples.BITS, (A, D), ((A, D, ()),))
        self.assertEqual(unserved_orders(task, ((A, B), (C, D))), [0])

    def test_contents_in_no_lot_serve_nothing(self):
        task = (samples.BITS, (A, B, D), ((A, D, (A, B, D)), (D, A, (A,))))
        self.assertEqual(served_way(task, ((A,), (B,), (D,)), 0), (A, B, D))
        self.assertIsNone(served_way(task, ((A,), (B,), (D,)), 1))

    def test_models_of_plans(self):
        plan = plan_of(TASK, LOTS)
        self.assertEqual(plan, (((B, A),), ((A, B, D), (D, B, A))))
        self.assertEqual(model_of(TASK, plan), LOTS)
        # A content whose home is None is in no lot.
        task = (samples.BITS, (A,), ())
        self.assertEqual(model_of(task, (((B, D), (D, B)), ())), ((A,),))
        self.assertEqual(model_of(task, (((B, A), (D, B)), ())), ((A, B, D),))

    def test_plans_that_do_not_keep_the_task(self):
        for rule, index in [(((B, D),), 1), ((), 0), (((B, A), (C, A)), None), (((C, A),), 0)]:
            plan = (rule, ((A, B, D), (D, B, A)))
            if index is None:
                self.assertEqual(model_of(TASK, plan), ((A, B, C), (D,)))
                continue
            with self.assertRaises(NotKept) as caught:
                model_of(TASK, plan)
            self.assertEqual(vars(caught.exception), {"index": index})

    def test_lots_that_do_not_serve_the_task(self):
        for lots, index in [(((A,), (D,)), 0), (((A,), (C, D)), 1), (((A,), (B, D)), 1)]:
            with self.assertRaises(NotServed) as caught:
                plan_of(TASK, lots)
            self.assertEqual(vars(caught.exception), {"index": index})

    def test_rows_lead_in_fewest_steps_to_the_least(self):
        bench = (free_place(2), free_place(2), free_place(2))
        task = (bench, ((0, 0, 0),), ())
        everywhere = tuple(samples.contents(bench))
        rows = dict(rule_of(task, (everywhere,)))
        self.assertEqual(rows[(1, 1, 1)], (0, 1, 1))
        self.assertEqual(rows[(0, 1, 1)], (0, 0, 1))
        self.assertEqual(rows[(1, 1, 0)], (0, 1, 0))
        # Without (0, 1, 1) and (0, 0, 1) the way home is longer.
        rows = dict(rule_of(task, (tuple(c for c in everywhere if c not in ((0, 1, 1), (0, 0, 1))),)))
        self.assertEqual(rows[(1, 1, 1)], (1, 0, 1))
        self.assertEqual(rows[(1, 0, 1)], (1, 0, 0))
        self.assertEqual(rule_of(task, (((0, 0, 0),),)), ())

    def test_ordinary_lots(self):
        rng = random.Random(22)
        models = 0
        for _ in range(200):
            task, lots = samples.random_lotted(rng)
            unserved = []
            for k, (start, goal, ends) in enumerate(task[2]):
                inside = [c for rest, lot in zip(task[1], lots) if rest in ends for c in lot]
                way = served_way(task, lots, k)
                self.assertEqual(way, reference.least_way(task[0], start, goal, lambda c: c in inside))
                unserved += [k] if way is None else []
            self.assertEqual(unserved_orders(task, lots), unserved)
            self.assertIs(is_model(task, lots), unserved == [])
            rule = rule_of(task, lots)
            self.check_rule(task, lots, rule)
            if unserved:
                with self.assertRaises(NotServed) as caught:
                    plan_of(task, lots)
                self.assertEqual(vars(caught.exception), {"index": unserved[0]})
                continue
            models += 1
            plan = plan_of(task, lots)
            self.assertEqual(plan, (rule, tuple(served_way(task, lots, k) for k in range(len(task[2])))))
            self.assertTrue(is_plan(task, plan) and keeps_task(task, plan))
            self.assertEqual(model_of(task, plan), lots)
        self.assertTrue(30 < models < 190, models)

    def check_rule(self, task, lots, rule):
        rows = dict(rule)
        inside = {content for lot in lots for content in lot}
        self.assertEqual(list(rule), sorted(rule))
        self.assertEqual(set(rows), inside - set(task[1]))
        for rest, lot in zip(task[1], lots):
            def steps(content):
                way = reference.least_way(task[0], content, rest, lambda c: c in lot)
                return len(way)
            for content in lot:
                if content != rest:
                    near = [c for c in samples.next_ones(task[0], content) if c in lot]
                    self.assertEqual(rows[content], min(near, key=lambda c: (steps(c), c)))

    def test_ordinary_plans(self):
        rng = random.Random(23)
        kept = 0
        for _ in range(150):
            task, plan = samples.random_planned(rng, 36, rng.choice([4, 60]))
            broken = [k for k in range(len(task[2])) if not reference.keeps(task, plan, k)]
            if broken:
                with self.assertRaises(NotKept) as caught:
                    model_of(task, plan)
                self.assertEqual(vars(caught.exception), {"index": broken[0]})
                continue
            kept += 1
            model = model_of(task, plan)
            for rest, lot in zip(task[1], model):
                homes = [c for c in samples.contents(task[0]) if reference.home(task, plan[0], c) == rest]
                self.assertEqual(list(lot), homes)
            self.assertTrue(is_lots(task, model) and is_model(task, model))
            self.assertEqual(unserved_orders(task, model), [])
        self.assertGreater(kept, 20)

    def test_answers_may_be_changed(self):
        unserved_orders(TASK, LOTS).append(0)
        self.assertEqual(unserved_orders(TASK, LOTS), [])
        self.assertEqual(plan_of(TASK, LOTS), plan_of(TASK, LOTS))


if __name__ == "__main__":
    unittest.main()
