"""[37] with [2], [3] and [6]: the search for a model."""

import random
import unittest

from onorback.benches import either_order, rise_place, slide_place
from onorback.errors import TooMany
from onorback.finding import Search, find_model
from onorback.forms import is_model
from onorback.reader import read_task
from tests import dealings, reference, samples
from tests.thresholds import THRESHOLDS

LINE = ((0,), (1,), (2,))


def cases_of(task):
    """The cases of the search, told as dealings.search tells them."""
    done, cases = Search(task[0], task[1]).run(task[2], None)
    places = list(task[1]) + [None]
    told = [(*case[:2], [places[k] for k in case[2]]) if case[0] == "split" else ("shut",) for case in cases]
    return told + ([] if done is None else [("done", find_model(task))])


def cases_within(task, most):
    """How many cases the search has, or most if there are more."""
    try:
        done, cases = Search(task[0], task[1]).run(task[2], most)
    except TooMany:
        return most
    return len(cases) + (done is not None)


class FindingTest(unittest.TestCase):
    def test_small_ones(self):
        bench = (slide_place(3),)
        self.assertEqual(find_model((bench, LINE[::2], (((0,), (2,), ((0,),)),))), (((0,), (1,)), ((2,),)))
        self.assertEqual(find_model((bench, LINE[::2], (((0,), (2,), ((2,),)),))), (((0,),), ((1,), (2,))))
        self.assertIsNone(find_model((bench, LINE[::2], (((0,), (2,), ((0,),)), ((2,), (0,), ((2,),))))))
        self.assertIsNone(find_model((bench, LINE, (either_order((0,), (2,)),))))
        self.assertEqual(find_model((bench, LINE, (((0,), (2,), LINE),))), (((0,),), ((1,),), ((2,),)))

    def test_without_orders(self):
        self.assertEqual(find_model(((slide_place(4),), ((1,), (3,)), ())), (((1,),), ((3,),)))
        self.assertEqual(find_model((((2, ()),), ((0,),), ())), (((0,),),))

    def test_orders_without_ends(self):
        self.assertEqual(find_model((samples.BITS, ((0, 0), (0, 1)), (((0, 0), (0, 1), ()),))), (((0, 0),), ((0, 1),)))
        self.assertIsNone(find_model((samples.BITS, ((0, 0), (1, 1)), (((0, 0), (1, 1), ()),))))

    def test_ends_that_are_neither_start_nor_goal(self):
        task = ((slide_place(3), slide_place(2)), ((0, 0), (1, 1), (2, 0)), (((0, 0), (2, 0), ((1, 1),)),))
        self.assertEqual(find_model(task), (((0, 0),), ((1, 0), (1, 1)), ((2, 0),)))
        # From (1, 0) one cannot come to (0, 1).
        task = ((rise_place(3), (2, ((1, 0),))), ((0, 0), (0, 1), (2, 0)), (((0, 1), (2, 0), ((0, 0),)),))
        self.assertIsNone(find_model(((rise_place(3), rise_place(2)), ((0, 0), (0, 1), (1, 1)),
                                      (((0, 0), (1, 1), ((0, 0),)),))))
        self.assertEqual(find_model(task) is None, not dealings.has_model(task))

    def agree(self, task, most):
        told = dealings.search(task, most)
        self.assertLess(len(told), most)
        self.assertEqual(cases_of(task), told)
        model = find_model(task)
        if model is not None:
            self.assertTrue(reference.is_model(task, model) and is_model(task, model))
        self.assertEqual(find_model(task), model)
        return model is not None, len(told)

    def test_the_search_is_as_told(self):
        rng = random.Random(61)
        seen = {True: 0, False: 0}
        longest = 0
        for k in range(240):
            task = samples.random_task(rng) if k < 80 else samples.knotty_task(rng)
            if cases_within(task, 60) < 60:
                found, many = self.agree(task, 60)
                seen[found] += 1
                longest = max(longest, many)
        self.assertTrue(min(seen.values()) > 50 and longest > 30, (seen, longest))

    def test_the_search_is_as_told_of_crowded_tasks(self):
        rng = random.Random(62)
        seen = {True: 0, False: 0}
        many = 0
        while min(seen.values()) < 12:
            task = samples.crowded_task(rng, 6)
            if 10 < cases_within(task, 150) < 150:
                found, told = self.agree(task, 200)
                seen[found] += 1
                many += told
        self.assertGreater(many, 500)

    def test_against_all_lots(self):
        rng = random.Random(63)
        seen = {True: 0, False: 0}
        for k in range(250):
            task = samples.random_task(rng, None, 8) if k < 100 else samples.knotty_task(rng, 9)
            if (len(task[1]) + 1) ** (len(samples.contents(task[0])) - len(task[1])) < 300:
                found = find_model(task) is not None
                self.assertIs(found, dealings.has_model(task), task)
                seen[found] += 1
        self.assertTrue(min(seen.values()) > 30, seen)

    def test_more_than_a_thousand_cases(self):
        told = set()
        for many, found, text in THRESHOLDS:
            task = read_task(text)
            told.add((many > 1000, found))
            if many > 1000:
                with self.assertRaises(TooMany) as caught:
                    find_model(task)
                self.assertEqual(vars(caught.exception), {"most": 1000})
            else:
                model = find_model(task)
                self.assertIs(model is not None, found)
                self.assertTrue(model is None or reference.is_model(task, model))
            self.assertEqual(len(Search(task[0], task[1]).run(task[2], None)[1]) + found, many)
        self.assertEqual(len(told), 4)
        self.assertLessEqual({999, 1000, 1001, 1002}, {many for many, _, _ in THRESHOLDS})

    def test_searches_near_the_bound_are_as_told(self):
        for many, found, text in THRESHOLDS:
            task = read_task(text)
            if many in (1000, 1001):
                told = dealings.search(task, 1002)
                self.assertEqual((len(told), told[-1][0] == "done"), (many, found))

    def test_models_are_lots_in_the_order_of_the_rests(self):
        rng = random.Random(64)
        for _ in range(60):
            task = samples.random_task(rng)
            try:
                model = find_model(task)
            except TooMany:
                continue
            if model is not None:
                self.assertIs(type(model), tuple)
                self.assertEqual([rest in lot for rest, lot in zip(task[1], model)], [True] * len(task[1]))


if __name__ == "__main__":
    unittest.main()
