"""[24] with HOME and RULE of [2]: homes, paths, stuck contents, rings."""

import random
import unittest

from onorback.homes import home_of, homes_of, path_home, rings_of, stuck_contents
from tests import reference, samples

# Along a line of six: one rest, rows that lead home, rows that lead round, and a stuck content.
LINE = ((6, tuple((v, w) for v in range(6) for w in range(6) if v != w)),)
TASK = (LINE, ((0,), (3,)), ())
RULE = (((1,), (4,)), ((2,), (0,)), ((4,), (1,)))


class HomesTest(unittest.TestCase):
    def test_all_kinds_of_homes(self):
        self.assertEqual(homes_of(TASK, RULE),
                         {(0,): (0,), (1,): None, (2,): (0,), (3,): (3,), (4,): None, (5,): None})
        self.assertEqual(stuck_contents(TASK, RULE), [(5,)])
        self.assertEqual(rings_of(TASK, RULE), [[(1,), (4,)]])
        self.assertEqual(path_home(TASK, RULE, (2,)), [(2,), (0,)])
        self.assertEqual(path_home(TASK, RULE, (3,)), [(3,)])
        self.assertIsNone(path_home(TASK, RULE, (4,)))
        self.assertIsNone(path_home(TASK, RULE, (5,)))
        self.assertEqual(home_of(TASK, RULE, (0,)), (0,))
        self.assertIsNone(home_of(TASK, RULE, (1,)))

    def test_an_empty_rule(self):
        self.assertEqual(homes_of(TASK, ()), {(k,): (k,) if k in (0, 3) else None for k in range(6)})
        self.assertEqual(stuck_contents(TASK, ()), [(1,), (2,), (4,), (5,)])
        self.assertEqual(rings_of(TASK, ()), [])

    def test_rings_begin_with_their_least(self):
        rule = (((1,), (5,)), ((2,), (1,)), ((4,), (2,)), ((5,), (4,)))
        self.assertEqual(rings_of(TASK, rule), [[(1,), (5,), (4,), (2,)]])
        rule = (((1,), (4,)), ((2,), (5,)), ((4,), (1,)), ((5,), (2,)))
        self.assertEqual(rings_of(TASK, rule), [[(1,), (4,)], [(2,), (5,)]])
        # What leads into a ring is no part of it.
        rule = (((1,), (2,)), ((2,), (5,)), ((4,), (5,)), ((5,), (2,)))
        self.assertEqual(rings_of(TASK, rule), [[(2,), (5,)]])

    def test_ordinary_rules(self):
        rng = random.Random(14)
        for _ in range(150):
            task = samples.random_task(rng)
            rule = samples.random_rule(rng, task, rng.choice([0, 0.5, 0.9, 1]))
            rows = dict(rule)
            contents = samples.contents(task[0])
            homes = homes_of(task, rule)
            self.assertEqual(list(homes), contents)
            rings = rings_of(task, rule)
            self.assertEqual(rings, sorted(rings))
            for ring in rings:
                self.assertEqual(ring[0], min(ring))
                self.assertEqual([rows[content] for content in ring], ring[1:] + ring[:1])
            stuck = [content for content in contents if content not in task[1] and content not in rows]
            self.assertEqual(stuck_contents(task, rule), stuck)
            ends = set(stuck) | {content for ring in rings for content in ring}
            for content in contents:
                home = reference.home(task, rule, content)
                self.assertEqual(homes[content], home)
                self.assertEqual(home_of(task, rule, content), home)
                path = path_home(task, rule, content)
                if home is None:
                    self.assertIsNone(path)
                    for _ in contents:
                        content = content if content in ends else rows[content]
                    self.assertIn(content, ends)
                else:
                    self.assertEqual((path[0], path[-1]), (content, home))
                    self.assertEqual([rows[one] for one in path[:-1]], path[1:])

    def test_answers_may_be_changed(self):
        for ask in [lambda: homes_of(TASK, RULE), lambda: path_home(TASK, RULE, (2,)),
                    lambda: stuck_contents(TASK, RULE), lambda: rings_of(TASK, RULE)]:
            told = ask()
            before = repr(told)
            if isinstance(told, dict):
                told[(0,)] = (5,)
            elif isinstance(told[0], list):
                told[0].append(None)
            else:
                told.append(None)
            self.assertEqual(repr(ask()), before)


if __name__ == "__main__":
    unittest.main()
