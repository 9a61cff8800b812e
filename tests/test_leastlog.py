"""[52] with [12], [3] and find_model of [37]: the least log, the least contents that meet all couples."""

import random
import unittest
from functools import lru_cache
from itertools import combinations, product

from onorback.errors import TooMany
from onorback.finding import find_model
from onorback.leastlog import least_meeting, least_values
from onorback.logs import bears_couples, log_task
from tests import samples
from tests.samples import dial, free, slide
from tests.test_logs import APART, BENCHES, LINE, LONE, STILL, all_couples, bears_told, some_couples

A, B, C = (0,), (1,), (2,)

# Benches with couples for which the search has too many cases: at which numbers of values, of 2 to 6.
CROWDED = [
    ((free(3), free(3)), (((0, 0), (1, 1)), ((1, 0), (2, 1)), ((1, 1), (2, 0))), "XMMMM"),
    ((dial(6),), (((0,), (4,)), ((1,), (4,)), ((1,), (5,)), ((2,), (4,)), ((2,), (5,)), ((3,), (4,)), ((3,), (5,))),
     "-XMMM"),
    ((slide(4), slide(2)), (((0, 0), (1, 1)), ((0, 0), (2, 1)), ((0, 0), (3, 0)), ((0, 1), (1, 0)), ((1, 1), (3, 1)),
                            ((2, 0), (3, 1)), ((2, 1), (3, 0)), ((3, 0), (3, 1))), "-XXMM"),
]


@lru_cache(maxsize=None)
def least_told(bench, couples, most):
    """The least number of values by a look at all layers, or None."""
    contents = samples.contents(bench)
    for many in range(1, most + 1):
        for layers in product(product(contents + [None], repeat=len(contents)), repeat=many - 1):
            if bears_told(bench, couples, layers):
                return many
    return None


class LeastLogTest(unittest.TestCase):
    def check(self, bench, couples, most, told):
        """What was returned bears the couples; the search tells of each smaller number that there is nothing."""
        many, layers = told
        self.assertIs(type(told), tuple)
        self.assertIs(type(layers), tuple)
        self.assertTrue(1 <= many <= most)
        self.assertEqual(len(layers), many - 1)
        self.assertTrue(bears_couples(bench, couples, layers) and bears_told(bench, couples, layers))
        for fewer in range(2, many):
            self.assertIsNone(find_model(log_task(bench, couples, fewer)))
        self.assertEqual(many == 1, bears_told(bench, couples, ()))

    def test_small_ones(self):
        self.assertEqual(least_values(LINE, ((A, C),), 6)[0], 2)
        for most in range(1, 7):
            self.assertEqual(least_values(LINE, (), most), (1, ()))
            self.assertEqual(least_values(LINE, ((A, B), (B, C)), most), (1, ()))
        self.assertIsNone(least_values(LINE, ((A, C),), 1))
        self.assertIsNone(least_values(LINE, ((A, B), (A, C)), 1))

    def test_what_no_log_helps(self):
        for bench, couples in [(APART, (((0, 0), (0, 1)),)), (LONE, ((A, (3,)),)), (STILL, (((0, 0), (1, 1)),))]:
            for most in range(1, 7):
                self.assertIsNone(least_values(bench, couples, most))
            self.assertEqual(least_values(bench, (), 6), (1, ()))

    def test_against_all_layers(self):
        seen = {}
        for bench in [(slide(2),), (free(2),), LINE, (free(3),), STILL[:1], ((3, ((0, 1), (1, 0))),)]:
            for many in range(len(all_couples(bench)) + 1):
                for couples in combinations(all_couples(bench), many):
                    # With three contents, two layers are all that can be looked at, and more than are needed.
                    for most in range(1, 4):
                        expected = least_told(bench, couples, most)
                        told = least_values(bench, couples, most)
                        self.assertEqual(expected, told and told[0])
                        if told is not None:
                            self.check(bench, couples, most, told)
                        seen[expected] = seen.get(expected, 0) + 1
        for bench in [(slide(4),), samples.BITS, (dial(4),), APART]:
            for many in [1, 2, 3, 6]:
                for couples in list(combinations(all_couples(bench), many))[::3]:
                    told = least_values(bench, couples, 2)
                    self.assertEqual(least_told(bench, couples, 2), told and told[0])
        self.assertGreaterEqual(set(seen), {1, 2, None}, seen)

    def test_three_values(self):
        # Two layers are needed, and told by a look at all pairs of layers that have only few centres.
        bench = (slide(4),)
        couples = (((0,), (2,)), ((0,), (3,)), ((1,), (3,)))
        self.check(bench, couples, 6, least_values(bench, couples, 6))
        rng = random.Random(141)
        seen = {}
        for _ in range(150):
            bench = rng.choice(BENCHES)
            couples = some_couples(rng, bench, rng.choice([2, 4, 8]))
            most = rng.randint(1, 6)
            try:
                told = least_values(bench, couples, most)
            except TooMany:
                told = "TooMany"
            searched = self.told_by_searches(bench, couples, most)
            self.assertEqual(told if told in (None, "TooMany") else told[0], searched)
            if told not in (None, "TooMany"):
                self.check(bench, couples, most, told)
            seen[searched] = seen.get(searched, 0) + 1
        self.assertGreaterEqual(set(seen), {1, 2, 3, None}, seen)

    def told_by_searches(self, bench, couples, most):
        if bears_told(bench, couples, ()):
            return 1
        for many in range(2, most + 1):
            try:
                if find_model(log_task(bench, couples, many)) is not None:
                    return many
            except TooMany:
                return "TooMany"
        return None

    def test_too_many_cases(self):
        for bench, couples, signs in CROWDED:
            for many, sign in zip(range(2, 7), signs):
                if sign == "X":
                    with self.assertRaises(TooMany):
                        find_model(log_task(bench, couples, many))
                else:
                    self.assertEqual(find_model(log_task(bench, couples, many)) is None, sign == "-")
            first = 2 + signs.index("X")
            for most in range(1, 7):
                if most < first:
                    self.assertIsNone(least_values(bench, couples, most))
                    continue
                with self.assertRaises(TooMany) as caught:
                    least_values(bench, couples, most)
                self.assertEqual(vars(caught.exception), {"most": 1000})
        # A model that is found ahead is returned, whatever is beyond.
        bench, couples, _ = CROWDED[0]
        self.assertEqual(least_values(bench, (((0, 0), (0, 1)), ((0, 0), (1, 0))), 6), (1, ()))

    def test_least_meeting(self):
        self.assertEqual(least_meeting(()), ())
        self.assertEqual(least_meeting(((A, C),)), (A,))
        self.assertEqual(least_meeting(((A, C), (B, C))), (C,))
        self.assertEqual(least_meeting(((A, B), (A, C), (B, C))), (A, B))
        self.assertEqual(least_meeting(((A, (3,)), (B, C))), (A, B))
        self.assertEqual(least_meeting(((A, (5,)), (B, (5,)), (C, (4,)))), (C, (5,)))
        # The smallest ones are taken, though a larger one would begin with less.
        self.assertEqual(least_meeting(((A, (8,)), (B, (8,)), (C, (8,)))), ((8,),))

    def test_least_meeting_against_all(self):
        rng = random.Random(142)
        seen = set()
        for _ in range(250):
            bench = rng.choice(BENCHES)
            contents = samples.contents(bench)
            couples = some_couples(rng, bench, rng.choice([1, 3, 8, 36]))
            meeting = [chosen for many in range(len(contents) + 1) for chosen in combinations(contents, many)
                       if all(set(couple) & set(chosen) for couple in couples)]
            least = min(meeting, key=lambda chosen: (len(chosen), chosen))
            told = least_meeting(couples)
            self.assertEqual((type(told), told), (tuple, least))
            seen.add(len(least))
        self.assertGreaterEqual(seen, {0, 1, 2, 3, 4, 5}, seen)

    def test_a_log_as_great_as_the_least_meeting(self):
        # [12]: a log of one value more than contents that meet all couples is enough.
        rng = random.Random(143)
        for _ in range(60):
            bench = rng.choice([LINE, (slide(4),), (slide(5),), (dial(5),), samples.BITS, (slide(3), slide(2))])
            couples = some_couples(rng, bench, 4)
            least = least_meeting(couples)
            if len(least) <= 5:
                self.assertIsNotNone(least_values(bench, couples, len(least) + 1))

    def test_answers_are_the_same_again(self):
        couples = ((A, C),)
        self.assertEqual(least_values(LINE, couples, 6), least_values(LINE, couples, 6))
        self.assertEqual(repr((LINE, couples)), repr(((slide(3),), ((A, C),))))


if __name__ == "__main__":
    unittest.main()
