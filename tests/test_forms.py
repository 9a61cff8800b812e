"""[16] with [2], [4] and what [6] says of models: whether values are what they are said to be."""

import random
import unittest

from onorback import forms
from tests import reference, samples

TWO_WAY = ((0, 1), (1, 0))
TASK = (samples.BITS, ((0, 0), (1, 1)), (((0, 0), (1, 1), ((0, 0), (1, 1))), ((1, 1), (0, 0), ())))
PLAN = ((((0, 1), (0, 0)),), (((0, 0), (1, 0), (1, 1)), ((1, 1), (1, 0), (0, 0))))
LOTS = (((0, 0), (0, 1)), ((1, 1),))


class FormsTest(unittest.TestCase):
    def agree(self, name, ahead, thing):
        told = getattr(forms, name)(*ahead, thing)
        self.assertIs(told, getattr(reference, name)(*ahead, thing), (name, ahead, repr(thing)[:300]))
        return told

    def test_integers(self):
        for thing in [0, -1, 7, 10 ** 40]:
            self.assertIs(forms.is_integer(thing), True)
        for thing in [True, False, None, "1", (1,), [1], {}, samples.a_player()]:
            self.assertIs(forms.is_integer(thing), False)

    def test_right_ones(self):
        self.assertIs(forms.is_place((2, ())), True)
        self.assertIs(forms.is_place((6, ((0, 5),))), True)
        self.assertIs(forms.is_bench(samples.BITS), True)
        self.assertIs(forms.is_task(TASK), True)
        self.assertIs(forms.is_task((samples.BITS, ((0, 0),), ())), True)
        self.assertIs(forms.is_content(samples.BITS, (0, 1)), True)
        self.assertIs(forms.is_step(samples.BITS, ((0, 1), (1, 1))), True)
        self.assertIs(forms.is_rule(TASK, ()), True)
        self.assertIs(forms.is_plan(TASK, PLAN), True)
        self.assertIs(forms.is_lots(TASK, LOTS), True)

    def test_wrong_places(self):
        for thing in [(1, ()), (7, ()), (2, [(0, 1)]), (2, ((0, 0),)), (2, ((0, 2),)), (2, ((-1, 0),)),
                      (2, ((1, 0), (0, 1))), (2, ((0, 1), (0, 1))), (2, ([0, 1],)), (2, ((0, True),)), (2, ((0,),)),
                      (2, ((0, 1, 0),)), (2, TWO_WAY, ()), (2,), [2, TWO_WAY], (True, ()), ("2", ()), (2, None)]:
            self.assertIs(forms.is_place(thing), False, thing)

    def test_wrong_tasks(self):
        bench, rests, _ = TASK
        one, other = rests
        for thing in [((), ((),), ()), (bench, (), ()), (bench, (other, one), ()), (bench, (one, one), ()),
                      (bench, rests, ((one, one, ()),)), (bench, rests, ((one, (0, 1), ()),)),
                      (bench, rests, (((1, 0), one, ()),)), (bench, rests, ((one, other, ((0, 1),)),)),
                      (bench, rests, ((one, other, (other, one)),)), (bench, rests, ((one, other, [one]),)),
                      (bench, rests, ((one, other, ()), (one, other, (one,)))),
                      (bench, rests, ((other, one, ()), (one, other, ()))), (bench, rests), (bench, rests, []),
                      (bench, rests, ((one, other),)), (bench, ((0, False), other), ())]:
            self.assertIs(forms.is_task(thing), False, thing)

    def test_wrong_rules_and_ways(self):
        for rule in [(((0, 0), (0, 1)),), (((0, 1), (1, 0)),), (((0, 1), (0, 1)),), (((1, 0), (0, 0)), ((0, 1), (0, 0))),
                     (((0, 1), (0, 0)), ((0, 1), (1, 1))), [((0, 1), (0, 0))], (((0, 1), (0, False)),), (((0, 1),),)]:
            self.assertIs(forms.is_rule(TASK, rule), False, rule)
        way, back = PLAN[1]
        for ways in [(way,), (way, back, back), (back, way), (way[:2], back), (way[1:], back), ((), back),
                     (((0, 0), (1, 1)), back), ((way[0], way[0], way[1], way[2]), back), (list(way), back), [way, back],
                     (((0, 0), (1, 0), (True, 1)), back)]:
            self.assertIs(forms.is_ways(TASK, ways), False, ways)
            self.assertIs(forms.is_plan(TASK, ((), ways)), False, ways)

    def test_ways_may_pass_rests_and_come_again(self):
        task = ((samples.SLIDE,), ((0,), (1,), (2,)), (((0,), (2,), ()),))
        self.assertIs(forms.is_ways(task, (((0,), (1,), (0,), (1,), (2,), (1,), (2,)),)), True)

    def test_wrong_lots(self):
        for lots in [(LOTS[0],), LOTS + ((),), (((0, 0), (0, 1)), ((0, 1), (1, 1))), (((0, 0), (1, 1)), ((1, 1),)),
                     (((0, 1),), ((1, 1),)), (((0, 1), (0, 0)), ((1, 1),)), ((), ((1, 1),)), list(LOTS),
                     (((0, 0), (0, 2)), ((1, 1),)), (((0, 0), (0, True)), ((1, 1),))]:
            self.assertIs(forms.is_lots(TASK, lots), False, lots)
            self.assertIs(forms.is_model(TASK, lots), False, lots)

    def test_lots_hang_together_by_steps_to_the_rest(self):
        rise = ((2, ((0, 1),)), (2, ((0, 1),)))
        self.assertIs(forms.is_lots((rise, ((1, 1),), ()), (((0, 0), (0, 1), (1, 1)),)), True)
        self.assertIs(forms.is_lots((rise, ((1, 1),), ()), (((0, 0), (1, 1)),)), False)
        self.assertIs(forms.is_lots((rise, ((0, 0),), ()), (((0, 0), (0, 1)),)), False)

    def test_models_serve_all_orders(self):
        task = (samples.BITS, ((0, 0), (1, 1)), (((0, 0), (1, 1), ((0, 0),)),))
        self.assertIs(forms.is_model(task, LOTS), True)
        self.assertIs(forms.is_model(task, (((0, 0),), ((0, 1), (1, 0), (1, 1)))), False)
        self.assertIs(forms.is_lots(task, (((0, 0),), ((0, 1), (1, 0), (1, 1)))), True)
        self.assertIs(forms.is_model(TASK, LOTS), False)

    def test_a_plan_need_not_keep_anything(self):
        self.assertIs(forms.is_plan(TASK, ((), PLAN[1])), True)

    def test_values_of_any_kind(self):
        for thing in samples.odd_values():
            for name in ["is_place", "is_bench", "is_task"]:
                self.agree(name, (), thing)
            for name in ["is_content", "is_step"]:
                self.agree(name, (samples.BITS,), thing)
            for name in ["is_rule", "is_ways", "is_plan", "is_lots", "is_model"]:
                self.agree(name, (TASK,), thing)

    def test_large_values_take_no_long(self):
        bench = ((2, TWO_WAY),) * 3000
        self.assertIs(forms.is_task((bench, ((0,) * 3000, (1,) * 3000), ())), True)
        self.assertIs(forms.is_task((bench, ((0,) * 3000, (1,) * 2999 + (True,)), ())), False)

    def test_lots_of_large_benches(self):
        for many in [6, 7, 300]:
            bench = ((2, TWO_WAY),) * many
            a, b, c = (0,) * many, (0,) * (many - 1) + (1,), (0,) * (many - 2) + (1, 1)
            task = (bench, (a, c), ((a, c, (c,)),))
            for lots, right, serving in [(((a,), (b, c)), True, True), (((a, b), (c,)), True, False), (((a, c), (b,)), False, False),
                                         (((a,), (c, (1,) * many)), False, False), (((a,), (b,)), False, False)]:
                self.assertIs(forms.is_lots(task, lots), right)
                self.assertIs(forms.is_model(task, lots), serving)

    def test_bent_ones(self):
        rng = random.Random(1)
        for _ in range(12):
            task, plan = samples.random_planned(rng, 12, 8)
            lots = samples.random_lots(rng, task)
            for bent in [task[0][0]] + list(samples.bends(task[0][0])):
                self.agree("is_place", (), bent)
            for bent in [task] + list(samples.bends(task)):
                self.agree("is_task", (), bent)
            for bent in [task[0]] + list(samples.bends(task[0])):
                self.agree("is_bench", (), bent)
            for bent in [task[1][0]] + list(samples.bends(task[1][0])):
                self.agree("is_content", (task[0],), bent)
            for step in reference.steps(task[0])[:3]:
                for bent in [step] + list(samples.bends(step)):
                    self.agree("is_step", (task[0],), bent)
            for bent in [plan] + list(samples.bends(plan)):
                self.agree("is_plan", (task,), bent)
            for bent in [lots] + list(samples.bends(lots)):
                self.agree("is_lots", (task,), bent)
                self.agree("is_model", (task,), bent)

    def test_ordinary_ones(self):
        rng = random.Random(2)
        for _ in range(60):
            task, plan = samples.random_planned(rng)
            self.assertIs(forms.is_task(task), True)
            self.assertIs(self.agree("is_plan", (task,), plan), True)
            self.assertIs(forms.is_rule(task, plan[0]) and forms.is_ways(task, plan[1]), True)
            task, lots = samples.random_lotted(rng)
            self.assertIs(self.agree("is_lots", (task,), lots), True)
            self.agree("is_model", (task,), lots)

    def test_truths_and_lists_are_never_right(self):
        rng = random.Random(3)
        for _ in range(5):
            task, plan = samples.random_planned(rng, 12, 8)
            lots = samples.random_lots(rng, task)
            for value, told in [(task, forms.is_task), (plan, lambda thing: forms.is_plan(task, thing)),
                                (lots, lambda thing: forms.is_lots(task, thing))]:
                for bent in samples.as_truths(value):
                    self.assertIs(told(bent), False, bent)

    def test_nothing_is_changed(self):
        thing = [[0, 1], {"a": [1]}, (2, [(0, 1)])]
        before = repr(thing)
        for name in ["is_place", "is_bench", "is_task"]:
            getattr(forms, name)(thing)
        forms.is_plan(TASK, thing)
        forms.is_model(TASK, thing)
        self.assertEqual(repr(thing), before)


if __name__ == "__main__":
    unittest.main()
