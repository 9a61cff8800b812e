"""[42] with [3] and [8]: cuts, the orders that cross them, covers, cuts that bar."""

import random
import unittest
from itertools import combinations

from onorback.benches import either_order, free_place, rise_place, slide_place
from onorback.cuts import barring_cut, crossing_orders, is_barring, least_cover
from onorback.errors import TooMany
from tests import dealings, samples

A, B, C = (0,), (1,), (2,)
LINE = ((slide_place(3),), (A, B, C), (either_order(A, C),))


def crosses(task, cut, order):
    reached = {order[0]} - set(cut)
    for _ in samples.contents(task[0]):
        reached |= {other for content in reached for other in samples.next_ones(task[0], content)} - set(cut)
    return order[1] not in reached


def covers(task, cut):
    """All sets of rests that cover a cut, the smallest and least first."""
    for many in range(len(task[1]) + 1):
        for rests in combinations(task[1], many):
            kept = all(content in rests for content in cut if content in task[1])
            crossing = [order for order in task[2] if crosses(task, cut, order)]
            if kept and all(set(rests) & {start, goal, *ends} for start, goal, ends in crossing):
                yield rests


def first_barring(task, most):
    for many in range(most + 1):
        for cut in combinations(samples.contents(task[0]), many):
            if len(next(covers(task, cut))) > many:
                return cut
    return None


def some_cut(rng, task):
    everywhere = samples.contents(task[0])
    others = [content for content in everywhere if content not in task[1]]
    if rng.random() < 0.3:
        return tuple(content for content in everywhere if content[0] == everywhere[len(everywhere) // 2][0])
    pool = rng.choice([everywhere, everywhere, task[1], others])
    most = rng.choice([0, 1, 2, 3, 6, len(pool)])
    return tuple(sorted(rng.sample(pool, min(most, len(pool)))))


class CutsTest(unittest.TestCase):
    def test_small_ones(self):
        self.assertEqual(crossing_orders(LINE, ()), [])
        self.assertEqual(crossing_orders(LINE, (B,)), [0])
        self.assertEqual(least_cover(LINE, (B,)), (A, B))
        self.assertEqual([is_barring(LINE, ()), is_barring(LINE, (B,)), is_barring(LINE, (A, B, C))], [False, True, False])
        self.assertEqual([barring_cut(LINE, 0), barring_cut(LINE, 1), barring_cut(LINE, 3)], [None, (B,), (B,)])

    def test_starts_and_goals_and_ends_in_the_cut(self):
        bench = (slide_place(4), slide_place(2))
        rests = ((0, 0), (1, 1), (2, 0), (3, 1))
        task = (bench, rests, ((rests[0], rests[3], (rests[1],)), (rests[2], rests[0], ())))
        self.assertEqual(crossing_orders(task, (rests[0],)), [0, 1])
        self.assertEqual(least_cover(task, (rests[0],)), (rests[0],))
        self.assertEqual(crossing_orders(task, (rests[3],)), [0])
        self.assertEqual(least_cover(task, (rests[3],)), (rests[3],))
        self.assertEqual(crossing_orders(task, (rests[2],)), [1])
        self.assertEqual(crossing_orders(task, (rests[1],)), [])
        self.assertEqual(least_cover(task, (rests[1],)), (rests[1],))
        self.assertEqual(crossing_orders(task, ((1, 0), (1, 1))), [0, 1])
        # (1, 1) is in the cut and an end of the first order; the second one needs another rest.
        self.assertEqual(least_cover(task, ((1, 0), (1, 1))), (rests[0], rests[1]))
        self.assertIs(is_barring(task, ((1, 0), (1, 1))), False)

    def test_the_least_of_covers_as_small(self):
        rests = ((0, 0), (0, 1), (2, 0), (2, 1))
        task = ((slide_place(3), slide_place(2)), rests, ((rests[1], rests[3], (rests[1], rests[3])),))
        cut = ((1, 0), (1, 1))
        self.assertEqual(least_cover(task, cut), (rests[1],))
        task = (task[0], rests, ((rests[1], rests[3], (rests[1], rests[3])), (rests[2], rests[0], (rests[0], rests[2]))))
        self.assertEqual(least_cover(task, cut), (rests[0], rests[1]))
        task = (task[0], rests, ((rests[0], rests[2], ()), (rests[0], rests[3], ()), (rests[1], rests[2], ())))
        self.assertEqual(least_cover(task, cut), (rests[0], rests[1]))
        task = (task[0], rests, ((rests[1], rests[2], (rests[3],)), (rests[1], rests[3], ()), (rests[3], rests[0], ())))
        self.assertEqual(least_cover(task, cut), (rests[3],))

    def test_without_orders(self):
        task = (LINE[0], (A, C), ())
        self.assertEqual([crossing_orders(task, (B,)), least_cover(task, (B,)), least_cover(task, (A, B))], [[], (), (A,)])
        self.assertIsNone(barring_cut(task, 3))

    def test_the_empty_cut_bars_what_cannot_be_come_to(self):
        task = ((rise_place(3),), (A, C), ((A, C, (A,)), (C, A, (A, C))))
        self.assertEqual(crossing_orders(task, ()), [1])
        self.assertEqual(least_cover(task, ()), (A,))
        self.assertEqual((is_barring(task, ()), barring_cut(task, 0)), (True, ()))

    def test_twenty_contents_at_most(self):
        rests = ((0, 0), (3, 4))
        task = ((slide_place(4), slide_place(5)), rests, (either_order(*rests),))
        self.assertIsNone(barring_cut(task, 1))
        for bench in [(slide_place(4), slide_place(6)), (free_place(2), free_place(2), slide_place(6)), (free_place(5),) * 2]:
            for most in range(4):
                with self.assertRaises(TooMany) as caught:
                    barring_cut((bench, ((0,) * len(bench),), ()), most)
                self.assertEqual(vars(caught.exception), {"most": 20})
        self.assertEqual(crossing_orders(((free_place(6),) * 2, rests, task[2]), ((0, 1),)), [])

    def test_ordinary_cuts(self):
        rng = random.Random(91)
        seen = {}
        for _ in range(800):
            task = rng.choice([samples.random_task, samples.knotty_task] + [samples.strung_task] * 4)(rng)
            task = (task[0], task[1], task[2][:8])
            cut = some_cut(rng, task)
            crossing = [k for k, order in enumerate(task[2]) if crosses(task, cut, order)]
            self.assertEqual(crossing_orders(task, cut), crossing)
            cover = next(covers(task, cut))
            self.assertEqual(least_cover(task, cut), cover)
            self.assertIs(is_barring(task, cut), len(cover) > len(cut))
            key = (len(cover) > len(cut), min(len(cut), 3))
            seen[key] = seen.get(key, 0) + 1
        self.assertTrue(all(seen[(truth, many)] > 4 for truth in (True, False) for many in range(3)), seen)

    def test_the_least_barring_cuts(self):
        rng = random.Random(92)
        seen = {}
        for _ in range(160):
            task = samples.strung_task(rng)
            most = rng.randrange(4)
            cut = first_barring(task, most)
            self.assertEqual(barring_cut(task, most), cut)
            self.assertEqual(barring_cut(task, most), cut)
            seen[cut if cut is None else len(cut)] = seen.get(cut if cut is None else len(cut), 0) + 1
        self.assertTrue(set(seen) >= {None, 1, 2} and min(seen[k] for k in (None, 1, 2)) > 5, seen)

    def test_what_a_cut_bars_has_no_model(self):
        rng = random.Random(93)
        barred = 0
        for _ in range(150):
            task = samples.strung_task(rng)
            if len(samples.contents(task[0])) > 6:
                continue
            cut = barring_cut(task, 3)
            if cut is not None:
                barred += 1
                self.assertIs(dealings.has_model(task), False)
        self.assertGreater(barred, 20)

    def test_answers_may_be_changed(self):
        crossing_orders(LINE, (B,)).append(5)
        self.assertEqual(crossing_orders(LINE, (B,)), [0])


if __name__ == "__main__":
    unittest.main()
