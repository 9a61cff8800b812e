"""[47] with [3] and with EITHER orders and MODEL of [2]: rests any to any."""

import random
import unittest
from itertools import combinations

from onorback.anytoany import any_to_any, most_any
from onorback.benches import dial_place, either_order, free_place, rise_place, slide_place
from onorback.errors import TooMany
from onorback.sums import room_of
from tests import dealings, reference, samples


def any_task(bench, rests):
    return (bench, rests, tuple(either_order(one, other) for one in rests for other in rests if one != other))


class AnyToAnyTest(unittest.TestCase):
    def check(self, bench, many, told):
        rests, model = told
        self.assertEqual((type(rests), type(model), len(rests)), (tuple, tuple, many))
        self.assertTrue(reference.ascending(rests, samples.contents(bench)))
        self.assertTrue(reference.is_model(any_task(bench, rests), model))
        self.assertEqual(any_to_any(bench, many), told)

    def test_small_ones(self):
        self.assertEqual(most_any((free_place(2), free_place(2))), 3)
        self.assertEqual(most_any((free_place(2),)), 2)
        self.assertEqual(most_any((free_place(6),)), 6)
        self.assertEqual(most_any((slide_place(6),)), 2)
        self.assertEqual(most_any((dial_place(6),)), 3)
        self.assertEqual(most_any((rise_place(6),)), 1)
        self.assertEqual(most_any(((2, ()),)), 1)
        self.assertEqual(any_to_any((free_place(2),), 1), (((0,),), (((0,),),)))

    def test_more_than_there_are(self):
        for many in [3, 4, 10, 100]:
            self.assertIsNone(any_to_any((free_place(2),), many))
        for many in [10, 11, 30]:
            self.assertIsNone(any_to_any((free_place(3), free_place(3)), many))

    def test_great_numbers(self):
        for bench in [(free_place(2),), (slide_place(3),), (dial_place(5),), (rise_place(6),), (free_place(2), free_place(2)),
                      (free_place(2),) * 3, (slide_place(4), free_place(2)), (free_place(3), slide_place(3)), ((2, ()),)]:
            for many in [len(samples.contents(bench)) + 1, 2 ** 31, 2 ** 63 - 1, 2 ** 63, 10 ** 30, 10 ** 39]:
                self.assertIsNone(any_to_any(bench, many))
        for many in [1, 37, 2 ** 63 - 1, 2 ** 63, 10 ** 30]:
            with self.assertRaises(TooMany) as caught:
                any_to_any((free_place(2), slide_place(5)), many)
            self.assertEqual(vars(caught.exception), {"most": 9})

    def test_nine_contents_at_most(self):
        for bench in [(slide_place(2), slide_place(5)), (free_place(2),) * 4, (rise_place(6), rise_place(6))]:
            for ask in [lambda: any_to_any(bench, 1), lambda: any_to_any(bench, 99), lambda: most_any(bench)]:
                with self.assertRaises(TooMany) as caught:
                    ask()
                self.assertEqual(vars(caught.exception), {"most": 9})

    def test_benches_of_nine_and_eight_contents(self):
        for bench in [(free_place(3), free_place(3)), (slide_place(3), slide_place(3)), (slide_place(3), free_place(3)),
                      (free_place(2),) * 3, (slide_place(4), free_place(2)), (dial_place(4), free_place(2)),
                      (rise_place(3), free_place(3)), (rise_place(4), rise_place(2))]:
            most = most_any(bench)
            for many in range(1, most + 1):
                self.check(bench, many, any_to_any(bench, many))
            for many in range(most + 1, 11):
                self.assertIsNone(any_to_any(bench, many))

    def test_a_grid_cannot_have_five(self):
        # Drawn on a sphere, five rests have at most nine of their ten pairs.
        self.assertEqual(most_any((slide_place(3), slide_place(3))), 4)
        # The room of the cube bars five as well: ten pairs, 12 steps less eight contents, and five.
        self.assertEqual(room_of(((free_place(2),) * 3, tuple(samples.contents((free_place(2),) * 3)[:5]), ())), 9)
        self.assertEqual(most_any((free_place(2),) * 3), 4)

    def test_against_all_lots(self):
        rng = random.Random(121)
        seen = {}
        for _ in range(60):
            bench = samples.random_bench(rng, 6)
            most = 1
            for many in range(1, len(samples.contents(bench)) + 2):
                told = any_to_any(bench, many)
                had = [rests for rests in combinations(samples.contents(bench), many)
                       if dealings.has_model(any_task(bench, rests))]
                self.assertEqual(told is None, not had)
                if told is not None:
                    most = many
                    self.assertIn(told[0], had)
                    self.check(bench, many, told)
            self.assertEqual(most_any(bench), most)
            seen[most] = seen.get(most, 0) + 1
        self.assertGreaterEqual(set(seen), {1, 2, 3, 4}, seen)


if __name__ == "__main__":
    unittest.main()
