"""[46] with [3] and with find_model of [37]: greatest lots of orders, least barred ones, least ends."""

import random
import unittest
from itertools import combinations

from onorback.benches import either_order, slide_place, with_orders
from onorback.errors import TooMany
from onorback.finding import find_model
from onorback.greatest import greatest_orders, least_barred, least_ends
from onorback.reader import read_task
from tests import dealings, samples
from tests.thresholds import THRESHOLDS

A, B, C, D = (0,), (1,), (2,), (3,)
LINE = (slide_place(3),)
TASK = (LINE, (A, C), ((A, C, (A,)), (C, A, (C,))))


def subsets(chosen):
    return [lot for many in range(len(chosen) + 1) for lot in combinations(chosen, many)]


def told(task, chosen):
    """What greatest_orders and least_barred return, from a look at all lots."""
    had = []
    for lot in subsets(chosen):
        kept = [order for k, order in enumerate(task[2]) if k not in chosen or k in lot]
        if find_model(with_orders(task, kept)) is not None:
            had.append(lot)
    barred = [lot for lot in subsets(chosen) if lot not in had]
    greatest = [lot for lot in had if not any(set(lot) < set(other) for other in had)]
    return sorted(greatest), sorted(lot for lot in barred if not any(set(other) < set(lot) for other in barred))


def told_ends(task, index, chosen):
    start, goal, _ = task[2][index]
    others = [order for k, order in enumerate(task[2]) if k != index]
    had = [lot for lot in subsets(chosen) if find_model(with_orders(task, others + [(start, goal, lot)])) is not None]
    return sorted(lot for lot in had if not any(set(other) < set(lot) for other in had))


class GreatestTest(unittest.TestCase):
    def too_many(self, most, ask):
        with self.assertRaises(TooMany) as caught:
            ask()
        self.assertEqual(vars(caught.exception), {"most": most})

    def test_small_ones(self):
        self.assertEqual(greatest_orders(TASK, (0, 1)), [(0,), (1,)])
        self.assertEqual(least_barred(TASK, (0, 1)), [(0, 1)])
        self.assertEqual(least_ends(TASK, 1, (A, C)), [(A,)])
        self.assertEqual(least_ends(TASK, 0, (A, C)), [(C,)])

    def test_nothing_chosen(self):
        self.assertEqual((greatest_orders(TASK, ()), least_barred(TASK, ())), ([], [()]))
        task = (LINE, (A, C), TASK[2][:1])
        self.assertEqual((greatest_orders(task, ()), least_barred(task, ())), ([()], []))
        self.assertEqual((least_ends(TASK, 0, ()), least_ends((LINE, (A, B), ((A, B, (A,)),)), 0, ())), ([], [()]))

    def test_what_is_not_chosen_stays(self):
        self.assertEqual((greatest_orders(TASK, (1,)), least_barred(TASK, (1,))), ([()], [(1,)]))
        task = (LINE, (A, B, C), (either_order(A, C), either_order(B, C), either_order(C, A)))
        self.assertEqual((greatest_orders(task, (1,)), least_barred(task, (1,))), ([], [()]))
        self.assertEqual((greatest_orders(task, (0, 2)), least_barred(task, (0, 2))), ([()], [(0,), (2,)]))
        self.assertEqual((greatest_orders(task, (0, 1, 2)), least_barred(task, (0, 1, 2))), ([(1,)], [(0,), (2,)]))

    def test_least_ends(self):
        bench = (slide_place(4),)
        task = (bench, (A, B, D), (either_order(A, B), either_order(A, D)))
        # The way from A to D passes B, whose lot may have C as well.
        self.assertEqual(least_ends(task, 0, (A, B, D)), [])
        self.assertEqual(least_ends(task, 1, (A, B, D)), [(B,)])
        self.assertEqual(least_ends(task, 1, (A, D)), [])
        bench = (slide_place(4), slide_place(2))
        rests = ((0, 0), (1, 0), (3, 0))
        task = (bench, rests, (either_order(rests[0], rests[2]),))
        self.assertEqual(least_ends(task, 0, rests), [(rests[0],), (rests[1],), (rests[2],)])
        self.assertEqual(least_ends(task, 0, rests[1:]), [(rests[1],), (rests[2],)])

    def test_lots_ascend(self):
        # Two lines that do not come to each other: on each, the way there and the way back bar each other.
        rests = ((0, 0), (0, 1), (2, 1), (3, 0))
        orders = tuple((start, goal, (start,)) for start, goal in zip(rests, rests[::-1]))
        task = ((slide_place(4), (2, ())), rests, orders)
        self.assertEqual(greatest_orders(task, (0, 1, 2, 3)), [(0, 1), (0, 2), (1, 3), (2, 3)])
        self.assertEqual(least_barred(task, (0, 1, 2, 3)), [(0, 3), (1, 2)])
        # All three pass (3,), which the lot of (0,) or that of (2,) can have.
        star = ((4, ((0, 3), (1, 3), (2, 3), (3, 0), (3, 1), (3, 2))),)
        task = (star, (A, B, C), ((A, B, (A,)), (A, C, (C,)), (B, A, (A,))))
        self.assertEqual(greatest_orders(task, (0, 1, 2)), [(0, 2), (1,)])
        # From rests[0] to rests[-1] past the second rest, or past the first and the third one, on a ring.
        ring = ((6, ((0, 1), (0, 2), (1, 5), (2, 3), (3, 5))),)
        task = (ring, ((0,), (1,), (2,), (3,), (5,)), (((0,), (5,), ()),))
        self.assertEqual(least_ends(task, 0, task[1]), [((1,),), ((2,), (3,))])
        ring = ((6, ((0, 1), (0, 2), (1, 3), (2, 5), (3, 5))),)
        task = (ring, task[1], task[2])
        self.assertEqual(least_ends(task, 0, task[1]), [((1,), (3,)), ((2,),)])

    def test_more_than_six(self):
        rests = tuple(samples.contents((slide_place(4), slide_place(2))))
        orders = tuple(either_order(rests[k], rests[k + 2]) for k in range(6)) + (either_order(rests[6], rests[7]),)
        task = ((slide_place(4), slide_place(2)), rests, orders)
        self.assertEqual(greatest_orders(task, tuple(range(6))), [tuple(range(6))])
        self.assertEqual(least_barred(task, tuple(range(6))), [])
        self.assertEqual(least_ends(task, 0, rests[:6]), [()])
        self.too_many(6, lambda: greatest_orders(task, tuple(range(7))))
        self.too_many(6, lambda: least_barred(task, tuple(range(7))))
        self.too_many(6, lambda: least_ends(task, 0, rests[:7]))

    def test_six_ahead_of_a_thousand(self):
        for many, _, text in THRESHOLDS:
            task = read_task(text)
            if many > 1000:
                self.too_many(1000, lambda: greatest_orders(task, ()))
                self.too_many(1000, lambda: least_barred(task, (0,)))
                if len(task[2]) > 6:
                    self.too_many(6, lambda: greatest_orders(task, tuple(range(7))))
                    self.too_many(6, lambda: least_barred(task, tuple(range(7))))
                if len(task[1]) > 6:
                    self.too_many(6, lambda: least_ends(task, 0, task[1][:7]))
                ends = task[2][0][2]
                self.too_many(1000, lambda: least_ends(task, 0, ends))
            else:
                self.assertEqual(len(greatest_orders(task, ())) + len(least_barred(task, ())), 1)

    def test_a_thousand_cases_of_any_lot(self):
        rng = random.Random(111)
        seen = {True: 0, False: 0}
        while min(seen.values()) < 6:
            task = samples.crowded_task(rng)
            if len(task[2]) < 4:
                continue
            chosen = tuple(sorted(rng.sample(range(len(task[2])), 4)))
            try:
                expected = told(task, chosen)
            except TooMany:
                seen[True] += 1
                self.too_many(1000, lambda: greatest_orders(task, chosen))
                self.too_many(1000, lambda: least_barred(task, chosen))
                continue
            if expected[1] and expected[0]:
                seen[False] += 1
                self.assertEqual((greatest_orders(task, chosen), least_barred(task, chosen)), expected)

    def test_a_thousand_cases_of_any_ends(self):
        rng = random.Random(112)
        seen = {True: 0, False: 0}
        while min(seen.values()) < 5:
            task = samples.crowded_task(rng)
            if not task[2]:
                continue
            chosen = tuple(sorted(rng.sample(task[1], 3)))
            try:
                expected = told_ends(task, 0, chosen)
            except TooMany:
                seen[True] += 1
                self.too_many(1000, lambda: least_ends(task, 0, chosen))
                continue
            if expected and expected != [()]:
                seen[False] += 1
                self.assertEqual(least_ends(task, 0, chosen), expected)

    def test_ordinary_tasks(self):
        rng = random.Random(113)
        greatest, barred, ends = set(), set(), set()
        for k in range(150):
            task = samples.strung_task(rng) if k % 2 else samples.knotty_task(rng, 9)
            if not task[2]:
                continue
            chosen = tuple(sorted(rng.sample(range(len(task[2])), rng.randint(0, min(6, len(task[2]))))))
            expected = told(task, chosen)
            self.assertEqual((greatest_orders(task, chosen), least_barred(task, chosen)), expected)
            index = rng.randrange(len(task[2]))
            some = tuple(sorted(rng.sample(task[1], rng.randint(0, min(4, len(task[1]))))))
            self.assertEqual(least_ends(task, index, some), told_ends(task, index, some))
            greatest.add(len(expected[0]))
            barred.add(len(expected[1]))
            ends.add(len(least_ends(task, index, some)))
        self.assertTrue(greatest >= {0, 1, 2, 3} and barred >= {0, 1, 2, 3} and ends >= {0, 1, 2}, (greatest, barred, ends))

    def test_against_all_lots_of_contents(self):
        rng = random.Random(114)
        for _ in range(20):
            task = samples.strung_task(rng)
            if len(samples.contents(task[0])) - len(task[1]) > 3 or not task[2]:
                continue
            for lot in greatest_orders(task, tuple(range(len(task[2])))):
                self.assertTrue(dealings.has_model(with_orders(task, [task[2][k] for k in lot])))
            for lot in least_barred(task, tuple(range(len(task[2])))):
                self.assertFalse(dealings.has_model(with_orders(task, [task[2][k] for k in lot])))

    def test_answers_may_be_changed(self):
        for ask in [lambda: greatest_orders(TASK, (0, 1)), lambda: least_barred(TASK, (0, 1)), lambda: least_ends(TASK, 1, (A, C))]:
            before = repr(ask())
            ask().clear()
            self.assertEqual(repr(ask()), before)


if __name__ == "__main__":
    unittest.main()
