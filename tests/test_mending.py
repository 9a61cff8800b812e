"""[29]: ways by a rule, and the least changes of a rule."""

import random
import time
import unittest
from itertools import combinations, product

from onorback.benches import free_place
from onorback.forms import is_plan, is_rule, is_ways
from onorback.judging import keeps_task
from onorback.mending import least_changes, orders_by_rule, way_by_rule
from onorback.models import rule_of
from tests import reference, samples
from tests.test_player import A, B, C, PLAN, RULE, TASK, WAYS, X, Y, Z


def changes(one, other):
    """At how many contents two rules differ."""
    one, other = dict(one), dict(other)
    return sum(one.get(content) != other.get(content) for content in set(one) | set(other))


def least_number(task, plan, most):
    """The least number of changes, from all rules with so many, or None."""
    everywhere = [content for content in samples.contents(task[0]) if content not in task[1]]
    for number in range(most + 1):
        for chosen in combinations(everywhere, number):
            for others in product(*[[None] + samples.next_ones(task[0], content) for content in chosen]):
                rows = dict(plan[0])
                rows.update(zip(chosen, others))
                rule = tuple(sorted((one, other) for one, other in rows.items() if other is not None))
                if all(reference.keeps(task, (rule, plan[1]), k) for k in range(len(task[2]))):
                    return number
    return None


class WaysByRuleTest(unittest.TestCase):
    def test_ways_past_homes_that_are_no_ends(self):
        task = (samples.BITS, ((0, 0), (1, 1)), (((0, 0), (1, 1), ((1, 1),)), ((1, 1), (0, 0), ())))
        rule = (((0, 1), (0, 0)), ((1, 0), (1, 1)))
        self.assertEqual(way_by_rule(task, rule, 0), ((0, 0), (1, 0), (1, 1)))
        self.assertIsNone(way_by_rule(task, rule, 1))
        self.assertIsNone(way_by_rule(task, (), 0))
        self.assertEqual(orders_by_rule(task, rule), [0])
        self.assertEqual(orders_by_rule(task, ()), [])

    def test_ways_of_one_step_and_through_rests(self):
        self.assertEqual(way_by_rule(TASK, (), 1), (A, C))
        slide = ((samples.SLIDE,), ((0,), (1,), (2,)), (((0,), (2,), ((1,),)), ((2,), (0,), ((0,), (2,)))))
        self.assertEqual(way_by_rule(slide, (), 0), ((0,), (1,), (2,)))
        self.assertIsNone(way_by_rule(slide, (), 1))
        self.assertEqual(orders_by_rule(slide, ()), [0])

    def test_ordinary_rules(self):
        rng = random.Random(20)
        found = 0
        for _ in range(80):
            task, plan = samples.random_planned(rng)
            ways = []
            for k, (start, goal, ends) in enumerate(task[2]):
                homes = {c: reference.home(task, plan[0], c) for c in samples.contents(task[0])}
                way = way_by_rule(task, plan[0], k)
                self.assertEqual(way, reference.least_way(task[0], start, goal, lambda c: homes[c] in ends))
                ways.append(way)
                found += way is not None
            self.assertEqual(orders_by_rule(task, plan[0]), [k for k, way in enumerate(ways) if way is not None])
            if None not in ways:
                self.assertTrue(is_ways(task, tuple(ways)))
                self.assertTrue(keeps_task(task, (plan[0], tuple(ways))))
        self.assertGreater(found, 50)

    def test_answers_may_be_changed(self):
        orders_by_rule(TASK, RULE).append(5)
        self.assertNotIn(5, orders_by_rule(TASK, RULE))


class LeastChangesTest(unittest.TestCase):
    def test_none_are_needed(self):
        task = (TASK[0], TASK[1], (TASK[2][1],))
        for most in range(3):
            self.assertEqual(least_changes(task, (RULE, (WAYS[1],)), most), (0, RULE))

    def test_a_row_is_added(self):
        task = (TASK[0], (A, B), ((A, B, (B,)),))
        plan = ((), ((A, X, B),))
        self.assertIsNone(least_changes(task, plan, 0))
        self.assertEqual(least_changes(task, plan, 1), (1, ((X, B),)))
        self.assertEqual(least_changes(task, plan, 2), (1, ((X, B),)))

    def test_one_row_for_all_that_leads_over_it(self):
        task = (TASK[0], (A, B), ((A, B, (B,)),))
        rule = ((X, Y), (Y, Z), (Z, A))
        slide = (((6, ((0, 3), (3, 1), (3, 4), (4, 1), (4, 5), (5, 0), (5, 1))),),) + task[1:]
        self.assertEqual(least_changes(slide, (rule, ((A, X, B),)), 1)[0], 1)
        self.assertEqual(least_changes(slide, (rule, ((A, X, Y, Z, B),)), 1), (1, ((X, Y), (Y, Z), (Z, B))))

    def test_two_are_needed(self):
        task = (TASK[0], (A, B), ((A, B, (B,)), (B, A, (A,))))
        plan = (((X, A), (Y, B)), ((A, X, B), (B, Y, A)))
        self.assertIsNone(least_changes(task, plan, 1))
        self.assertEqual(least_changes(task, plan, 2)[0], 2)
        plan = ((), ((A, X, Y, Z, B), (B, A)))
        self.assertIsNone(least_changes(task, plan, 2))

    def test_no_rule_will_do(self):
        order = (A, B, (B,))
        for way in [(A, C, B), (A, X, C, Y, B), (A, X, A, B)]:
            task = (TASK[0], TASK[1], (order,))
            self.assertIsNone(least_changes(task, (((X, B), (Y, B)), (way,)), 2))
        task = (TASK[0], TASK[1], ((A, B, ()),))
        self.assertIsNone(least_changes(task, (RULE, ((A, X, B),)), 2))
        task = (TASK[0], (A, B), ((A, B, (A,)), (B, A, (B,))))
        self.assertIsNone(least_changes(task, (RULE, ((A, X, B), (B, X, A))), 2))

    def agree(self, task, plan, numbers):
        for most in range(3):
            number = least_number(task, plan, most)
            told = least_changes(task, plan, most)
            if number is None:
                self.assertIsNone(told)
                continue
            numbers[number] += 1
            self.assertEqual(told[0], number)
            self.assertTrue(is_rule(task, told[1]))
            self.assertTrue(keeps_task(task, (told[1], plan[1])))
            self.assertEqual(changes(plan[0], told[1]), number)

    def test_ordinary_plans(self):
        rng = random.Random(21)
        numbers = [0, 0, 0]
        for _ in range(150):
            self.agree(*samples.random_planned(rng, 9, rng.choice([3, 4, 8])), numbers)
        self.assertTrue(min(numbers[:2]) > 5, numbers)

    def test_damaged_plans(self):
        rng = random.Random(24)
        numbers = [0, 0, 0]
        for _ in range(800):
            bench = samples.random_bench(rng, 9)
            rests = tuple(sorted(rng.sample(samples.contents(bench), 2)))
            lots = samples.random_lots(rng, (bench, rests, ()))
            rows = dict(rule_of((bench, rests, ()), lots))
            pairs = [(rests, samples.random_way(rng, bench, *rests, 8)),
                     (rests[::-1], samples.random_way(rng, bench, *rests[::-1], 8))]
            pairs = [(pair, way) for pair, way in pairs if way is not None]
            homes = [{home for home, lot in zip(rests, lots) for c in way[1:-1] if c in lot} for _, way in pairs]
            orders = tuple(pair + (tuple(sorted(ends)),) for (pair, _), ends in zip(pairs, homes))
            for one in rng.sample(sorted(rows), min(len(rows), rng.randint(1, 3))):
                rows[one] = rng.choice([None] + samples.next_ones(bench, one))
            rule = tuple(sorted((one, other) for one, other in rows.items() if other is not None))
            self.agree((bench, rests, orders), (rule, tuple(way for _, way in pairs)), numbers)
        self.assertTrue(min(numbers) > 5, numbers)

    def test_large_ones_take_no_long(self):
        # Six rings of six contents each, and a way that passes all of them.
        bench = (free_place(6), free_place(6))
        snake = [(v, w if v % 2 == 0 else 5 - w) for v in range(6) for w in range(6)]
        rests = (snake[0], snake[-1])
        rule = tuple(((v, w), (v, (w + 1) % 6)) for v, w in sorted(snake[1:-1]))
        task = (bench, rests, ((rests[0], rests[1], rests),))
        plan = (rule, (tuple(snake),))
        self.assertTrue(is_plan(task, plan))
        begun = time.process_time()
        self.assertIsNone(least_changes(task, plan, 2))
        self.assertLess(time.process_time() - begun, 20)

    def test_asked_again(self):
        before = repr(PLAN)
        self.assertEqual(least_changes(TASK, PLAN, 2), least_changes(TASK, PLAN, 2))
        self.assertEqual(repr(PLAN), before)


if __name__ == "__main__":
    unittest.main()
