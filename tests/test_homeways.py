"""[33] with LOTS and MODEL of [2], [3], and with rule_of of [32]."""

import random
import unittest

from onorback.benches import either_order, rise_place, slide_place
from onorback.homes import path_home
from onorback.homeways import home_steps, longest_home, spare_contents, tight_model
from onorback.models import rule_of
from tests import reference, samples

A, B, C, D = (0, 0), (0, 1), (1, 0), (1, 1)


def without(lots, content):
    return tuple(tuple(c for c in lot if c != content) for lot in lots)


def spare(task, lots):
    held = sorted(content for lot in lots for content in lot)
    return [content for content in held if reference.is_model(task, without(lots, content))]


class HomewaysTest(unittest.TestCase):
    def some_models(self, rng, many, most):
        found = []
        while len(found) < many:
            task, lots = samples.random_lotted(rng, most)
            orders = tuple(order for order in task[2] if samples.serves(task[0], task[1], lots, order))
            found.append(((task[0], task[1], orders), lots))
        return found

    def test_small_ones(self):
        task = (samples.BITS, (A, D), (either_order(A, D), (D, A, (A,))))
        lots = ((A, B), (D,))
        self.assertEqual(home_steps(task, lots), {A: 0, B: 1, D: 0})
        self.assertEqual(longest_home(task, lots), 1)
        self.assertEqual(spare_contents(task, lots), [])
        self.assertEqual(tight_model(task, lots), lots)
        self.assertEqual(spare_contents(task, ((A, B, C), (D,))), [B, C])
        self.assertEqual(tight_model(task, ((A, B, C), (D,))), ((A, C), (D,)))
        self.assertEqual(spare_contents(task, ((A, B), (C, D))), [C])

    def test_rests_alone(self):
        task = (samples.BITS, (A, D), ())
        self.assertEqual(home_steps(task, ((A,), (D,))), {A: 0, D: 0})
        self.assertEqual(list(home_steps(task, ((A,), (D,)))), [A, D])
        self.assertEqual((longest_home(task, ((A,), (D,))), spare_contents(task, ((A,), (D,)))), (0, []))
        self.assertEqual(tight_model(task, ((A,), (B, D))), ((A,), (D,)))
        self.assertEqual(longest_home(((rise_place(2),), ((0,),), ()), (((0,),),)), 0)

    def test_what_others_come_home_by_is_not_spare(self):
        task = ((slide_place(5),), ((0,),), ())
        lots = (((0,), (1,), (2,), (3,)),)
        self.assertEqual(home_steps(task, lots), {(0,): 0, (1,): 1, (2,): 2, (3,): 3})
        self.assertEqual(longest_home(task, lots), 3)
        self.assertEqual(spare_contents(task, lots), [(3,)])
        self.assertEqual(tight_model(task, lots), (((0,),),))

    def test_steps_are_counted_towards_the_rest(self):
        task = ((rise_place(4),), ((3,),), ())
        self.assertEqual(home_steps(task, (((0,), (1,), (3,)),)), {(0,): 1, (1,): 1, (3,): 0})
        bench = ((4, ((0, 1), (1, 2), (2, 3), (3, 0))),)
        lots = (((0,), (1,), (2,), (3,)),)
        self.assertEqual(home_steps((bench, ((0,),), ()), lots), {(0,): 0, (1,): 3, (2,): 2, (3,): 1})
        self.assertEqual(longest_home((bench, ((0,),), ()), lots), 3)

    def test_the_keys_ascend_across_the_lots(self):
        task = ((slide_place(3), slide_place(2)), ((0, 0), (2, 0)), ())
        lots = (((0, 0), (0, 1), (1, 1), (2, 1)), ((1, 0), (2, 0)))
        self.assertEqual(list(home_steps(task, lots)), sorted(lots[0] + lots[1]))

    def test_ordinary_lots(self):
        rng = random.Random(81)
        for _ in range(120):
            task, lots = samples.random_lotted(rng)
            steps = home_steps(task, lots)
            self.assertIs(type(steps), dict)
            expected = {}
            for rest, lot in zip(task[1], lots):
                for content in lot:
                    expected[content] = len(reference.least_way(task[0], content, rest, lambda c: c in lot)) - 1
            self.assertEqual(list(steps.items()), sorted(expected.items()))
            self.assertEqual(longest_home(task, lots), max(expected.values()))
            rule = rule_of(task, lots)
            paths = [len(path_home(task, rule, content)) - 1 for content in expected]
            self.assertEqual(longest_home(task, lots), max(paths))

    def test_ordinary_models(self):
        rng = random.Random(82)
        some = 0
        for task, lots in self.some_models(rng, 160, 20):
            told = spare_contents(task, lots)
            self.assertEqual(told, spare(task, lots))
            left = lots
            while spare(task, left):
                left = without(left, spare(task, left)[0])
            self.assertEqual(tight_model(task, lots), left)
            self.assertTrue(reference.is_model(task, left))
            self.assertEqual(spare_contents(task, left), [])
            some += len(told) > 1 and left != lots and any(len(lot) > 1 for lot in left)
        self.assertGreater(some, 10)

    def test_answers_may_be_changed(self):
        task = ((slide_place(3),), ((0,),), ())
        lots = (((0,), (1,), (2,)),)
        home_steps(task, lots).clear()
        spare_contents(task, lots).append((0,))
        self.assertEqual(home_steps(task, lots), {(0,): 0, (1,): 1, (2,): 2})
        self.assertEqual(spare_contents(task, lots), [(2,)])


if __name__ == "__main__":
    unittest.main()
