"""[48] with [11]: the sealed bench."""

import random
import unittest

from onorback.benches import either_order, free_place
from onorback.homes import home_of
from onorback.models import model_of, plan_of, rule_of
from onorback.sealed import most_rests, places_for, sealed_home, sealed_model, sealed_next, sealed_task, sealed_way
from tests import reference, samples


def bits(many, number):
    return tuple(number >> k & 1 for k in reversed(range(many)))


def beside(content):
    return sorted(content[:k] + (1 - content[k],) + content[k + 1:] for k in range(len(content)))


def lots_told(h):
    """The lots as [11] tells them."""
    halves = [bits(h, number) for number in range(2 ** h)]
    lots = []
    for x in halves:
        lots.append(tuple(sorted([x + y + (0,) for y in halves] + [z + x + (1,) for z in halves])))
    return [x + (0,) * (h + 1) for x in halves], lots


def steps_within(inside, start):
    """How many steps, within some contents, lead from one to each of the others."""
    steps = {start: 0}
    layer = [start]
    while layer:
        layer = [other for content in layer for other in beside(content) if other in inside]
        layer = [other for other in dict.fromkeys(layer) if other not in steps]
        steps.update({other: max(steps.values()) + 1 for other in layer})
    return steps


class SealedTest(unittest.TestCase):
    def test_small_ones(self):
        self.assertEqual(sealed_task(1), ((free_place(2),) * 3, ((0, 0, 0), (1, 0, 0)),
                                          (either_order((0, 0, 0), (1, 0, 0)), either_order((1, 0, 0), (0, 0, 0)))))
        self.assertEqual(sealed_model(1), (((0, 0, 0), (0, 0, 1), (0, 1, 0), (1, 0, 1)),
                                           ((0, 1, 1), (1, 0, 0), (1, 1, 0), (1, 1, 1))))
        self.assertEqual([sealed_home(1, (0, 1, 1)), sealed_next(1, (0, 1, 1)), sealed_next(1, (1, 1, 1))],
                         [(1, 0, 0), (1, 1, 1), (1, 1, 0)])
        self.assertEqual(sealed_way(1, (0, 0, 0), (1, 0, 0)), ((0, 0, 0), (1, 0, 0)))

    def test_one_and_two_whole(self):
        for h in [1, 2]:
            task, model = sealed_task(h), sealed_model(h)
            rests, lots = lots_told(h)
            self.assertEqual((task[0], list(task[1])), ((free_place(2),) * (2 * h + 1), rests))
            self.assertEqual(task[2], tuple(either_order(s, g) for s in rests for g in rests if s != g))
            self.assertTrue(reference.is_task(task))
            self.assertEqual(list(model), lots)
            self.assertTrue(reference.is_model(task, model))
            self.assertEqual(model_of(task, plan_of(task, model)), model)
            rows = dict(rule_of(task, model))
            for content in samples.contents(task[0]):
                self.assertEqual(sealed_home(h, content), home_of(task, tuple(rows.items()), content))
                self.assertEqual(sealed_next(h, content), rows.get(content))

    def check_way(self, h, start, goal, way):
        self.assertEqual((type(way), way[0], way[-1]), (tuple, start, goal))
        for one, other in zip(way, way[1:]):
            self.assertIn(other, beside(one))
        for content in way[1:-1]:
            self.assertIn(sealed_home(h, content), (start, goal))

    def test_ways_are_shortest(self):
        for h in [1, 2, 3]:
            rests, lots = lots_told(h)
            for start, one in zip(rests, lots):
                for goal, other in zip(rests, lots):
                    if start != goal:
                        way = sealed_way(h, start, goal)
                        self.check_way(h, start, goal, way)
                        self.assertEqual(len(way) - 1, steps_within(set(one + other), start)[goal])

    def test_three_whole(self):
        rests, lots = lots_told(3)
        for rest, lot in zip(rests, lots):
            steps = steps_within(set(lot), rest)
            for content in lot:
                self.assertEqual(sealed_home(3, content), rest)
                near = [other for other in beside(content) if steps.get(other) == steps[content] - 1]
                self.assertEqual(sealed_next(3, content), min(near) if near else None)

    def told_next(self, h, content):
        """The least content of the lot that is one step nearer, counted by what differs."""
        home = sealed_home(h, content)

        def left(other):
            if other[-1] == 0:
                return sum(other[h:2 * h])
            return sum(a != b for a, b in zip(other[:h], home)) + 1 + sum(home)
        near = [other for other in beside(content) if sealed_home(h, other) == home and left(other) == left(content) - 1]
        return min(near) if near else None

    def test_up_to_thirty(self):
        rng = random.Random(131)
        for h in list(range(4, 31)) * 3:
            for content in [bits(2 * h + 1, rng.randrange(2 ** (2 * h + 1))) for _ in range(6)]:
                x, y, c = content[:h], content[h:2 * h], content[-1]
                self.assertEqual(sealed_home(h, content), (y if c else x) + (0,) * (h + 1))
                trail = [content]
                while trail[-1] is not None:
                    self.assertEqual(sealed_next(h, trail[-1]), self.told_next(h, trail[-1]))
                    trail.append(sealed_next(h, trail[-1]))
                self.assertEqual(trail[-2], sealed_home(h, content))
            start, goal = [bits(h, number) + (0,) * (h + 1) for number in rng.sample(range(2 ** h), 2)]
            if rng.random() < 0.3:
                goal = rng.choice([other for other in beside(start) if other[h:] == start[h:]])
            way = sealed_way(h, start, goal)
            self.check_way(h, start, goal, way)
            apart = sum(a != b for a, b in zip(start, goal))
            fewest = 1 if apart == 1 else apart + 2 + 2 * min(sum(start), sum(goal))
            self.assertEqual(len(way) - 1, fewest)
            self.assertEqual(sealed_way(h, start, goal), way)

    def test_special_contents(self):
        for h in [1, 2, 30]:
            self.assertIsNone(sealed_next(h, (0,) * (2 * h + 1)))
            self.assertIsNone(sealed_next(h, (1,) * h + (0,) * (h + 1)))
            self.assertEqual(sealed_next(h, (1,) * (2 * h + 1)), (1,) * (2 * h) + (0,))
            self.assertEqual(sealed_next(h, (0,) * (2 * h) + (1,)), (0,) * (2 * h + 1))
            self.assertEqual(sealed_next(h, (0,) * h + (1,) * (h + 1)), (0,) * (h - 1) + (1,) * (h + 2))

    def test_most_rests(self):
        self.assertEqual([most_rests(places) for places in range(1, 8)], [2, 3, 4, 7, 11, 17, 26])
        for places in range(1, 211):
            many, room = most_rests(places), (places - 2) * 2 ** places
            self.assertTrue(many * (many - 3) <= room and many <= 2 ** places)
            self.assertTrue((many + 1) * (many - 2) > room or many == 2 ** places)

    def test_places(self):
        self.assertEqual([places_for(many) for many in [1, 2, 3, 4, 5, 7, 8, 9]],
                         [(1, 1), (1, 3), (2, 5), (3, 5), (4, 7), (4, 7), (5, 7), (5, 9)])
        for half in range(107):
            for many in [2 ** half - 1, 2 ** half, 2 ** half + 1]:
                if 1 <= many <= 10 ** 32:
                    self.check_places(many)
        for many in [10 ** 32, 10 ** 32 - 1, 10 ** 31, 3 * 10 ** 20]:
            self.check_places(many)

    def check_places(self, many):
        least, enough = places_for(many)
        self.assertGreaterEqual(most_rests(least), many)
        self.assertTrue(least == 1 or most_rests(least - 1) < many)
        half = enough // 2
        self.assertTrue(enough % 2 == 1 and 2 ** half >= many and (half == 0 or 2 ** (half - 1) < many))


if __name__ == "__main__":
    unittest.main()
