"""[17] with [2] and [3]: places, contents, steps, ways, what is reached, pieces, orders put in."""

import random
import unittest

from onorback.benches import (contents_of, dial_place, distance, either_order, free_place, is_two_way, pieces_of,
                              reached_from, rise_place, shortest_way, slide_place, steps_from, steps_to, with_orders)
from tests import reference, samples


class PlacesTest(unittest.TestCase):
    def test_places(self):
        self.assertEqual(free_place(2), (2, ((0, 1), (1, 0))))
        self.assertEqual(free_place(3), (3, ((0, 1), (0, 2), (1, 0), (1, 2), (2, 0), (2, 1))))
        self.assertEqual(slide_place(2), free_place(2))
        self.assertEqual(slide_place(4), (4, ((0, 1), (1, 0), (1, 2), (2, 1), (2, 3), (3, 2))))
        self.assertEqual(dial_place(3), free_place(3))
        self.assertEqual(dial_place(4), (4, ((0, 1), (0, 3), (1, 0), (1, 2), (2, 1), (2, 3), (3, 0), (3, 2))))
        self.assertEqual(rise_place(2), (2, ((0, 1),)))
        self.assertEqual(rise_place(4), (4, ((0, 1), (0, 2), (0, 3), (1, 2), (1, 3), (2, 3))))

    def test_places_of_all_sizes(self):
        for many in range(2, 7):
            pairs = [(v, w) for v in range(many) for w in range(many) if v != w]
            self.assertEqual(free_place(many), (many, tuple(pairs)))
            self.assertEqual(slide_place(many), (many, tuple(p for p in pairs if p[0] - p[1] in (1, -1))))
            self.assertEqual(rise_place(many), (many, tuple(p for p in pairs if p[0] < p[1])))
            if many > 2:
                near = tuple(p for p in pairs if (p[0] + 1) % many == p[1] or (p[1] + 1) % many == p[0])
                self.assertEqual(dial_place(many), (many, near))


class StepsTest(unittest.TestCase):
    def test_contents_are_all_and_ascend(self):
        self.assertEqual(contents_of((slide_place(3), free_place(2))), [(0, 0), (0, 1), (1, 0), (1, 1), (2, 0), (2, 1)])
        rng = random.Random(4)
        for _ in range(50):
            bench = samples.random_bench(rng)
            self.assertEqual(contents_of(bench), samples.contents(bench))

    def test_steps_from_and_to(self):
        rng = random.Random(5)
        for _ in range(60):
            bench = samples.random_bench(rng)
            steps = reference.steps(bench)
            for content in samples.contents(bench):
                self.assertEqual(steps_from(bench, content), [other for one, other in steps if one == content])
                self.assertEqual(steps_to(bench, content), [one for one, other in steps if other == content])
            self.assertIs(is_two_way(bench), all((other, one) in steps for one, other in steps))

    def test_a_place_without_moves(self):
        bench = ((2, ()), rise_place(2))
        self.assertEqual(steps_from(bench, (0, 0)), [(0, 1)])
        self.assertEqual(steps_to(bench, (0, 0)), [])
        self.assertIs(is_two_way(bench), False)
        self.assertIs(is_two_way(((2, ()),)), True)


class WaysTest(unittest.TestCase):
    def test_ways_past_what_is_barred(self):
        bench = (slide_place(3), free_place(2))
        self.assertEqual(shortest_way(bench, (0, 0), (0, 0), [(0, 0)]), ((0, 0),))
        self.assertEqual(distance(bench, (0, 0), (0, 0), ((0, 0), (0, 0))), 0)
        self.assertEqual(shortest_way(bench, (0, 0), (2, 0), ((2, 0), (0, 0), (0, 0))), ((0, 0), (1, 0), (2, 0)))
        self.assertIsNone(shortest_way(bench, (0, 0), (2, 0), [(1, 1), (1, 0)]))
        self.assertIsNone(distance(bench, (0, 0), (2, 0), [(1, 1), (1, 0)]))

    def test_the_least_of_the_shortest(self):
        bits = (free_place(2), free_place(2))
        self.assertEqual(shortest_way(bits, (0, 0), (1, 1), []), ((0, 0), (0, 1), (1, 1)))
        self.assertEqual(shortest_way(bits, (1, 1), (0, 0), []), ((1, 1), (0, 1), (0, 0)))
        self.assertEqual(shortest_way((rise_place(4),), (0,), (3,), []), ((0,), (3,)))
        self.assertIsNone(shortest_way((rise_place(4),), (3,), (0,), []))

    def test_ordinary_ways(self):
        rng = random.Random(6)
        for _ in range(150):
            bench = samples.random_bench(rng)
            contents = samples.contents(bench)
            barred = rng.choice([list, tuple])(rng.choices(contents, k=rng.randrange(len(contents))))
            one, other = rng.choice(contents), rng.choice(contents)
            before = repr(barred)
            way = shortest_way(bench, one, other, barred)
            self.assertEqual(way, reference.least_way(bench, one, other, lambda content: content not in barred))
            self.assertEqual(distance(bench, one, other, barred), None if way is None else len(way) - 1)
            self.assertEqual(shortest_way(bench, one, other, barred), way)
            self.assertEqual(repr(barred), before)

    def test_reached(self):
        bench = (rise_place(3),)
        self.assertEqual(reached_from(bench, (), [(0,)]), [])
        self.assertEqual(reached_from(bench, [(1,)], ((1,),)), [(1,), (2,)])
        self.assertEqual(reached_from(bench, [(2,), (0,), (2,)], [(1,)]), [(0,), (2,)])
        self.assertEqual(reached_from((slide_place(3),), [(0,)], [(1,)]), [(0,)])

    def test_ordinary_reached(self):
        rng = random.Random(7)
        for _ in range(100):
            bench = samples.random_bench(rng)
            contents = samples.contents(bench)
            barred = rng.choices(contents, k=rng.randrange(len(contents)))
            some = tuple(rng.choices(contents, k=rng.randrange(4)))
            reached = set(some)
            for _ in contents:
                ahead = {later for content in reached for later in samples.next_ones(bench, content)}
                reached |= {content for content in ahead if content not in barred}
            self.assertEqual(reached_from(bench, some, barred), sorted(reached))

    def test_pieces(self):
        self.assertEqual(pieces_of((slide_place(3),), []), [])
        self.assertEqual(pieces_of((slide_place(3),), [(2,), (0,)]), [((0,),), ((2,),)])
        self.assertEqual(pieces_of((slide_place(3),), ((2,), (1,), (0,))), [((0,), (1,), (2,))])
        self.assertEqual(pieces_of((rise_place(3),), [(0,), (1,), (1,), (2,)]), [((0,),), ((1,),), ((2,),)])

    def test_ordinary_pieces(self):
        rng = random.Random(8)
        for _ in range(60):
            bench = samples.random_bench(rng)
            contents = samples.contents(bench)
            some = rng.sample(contents, rng.randrange(len(contents) + 1))
            def leads(one, other):
                return reference.least_way(bench, one, other, lambda content: content in some) is not None
            pieces = {tuple(sorted(b for b in some if leads(a, b) and leads(b, a))) for a in some}
            self.assertEqual(pieces_of(bench, some), sorted(pieces))


class OrdersTest(unittest.TestCase):
    def test_orders_put_in(self):
        task = (samples.BITS, ((0, 0), (0, 1), (1, 1)), (((0, 0), (1, 1), ()),))
        orders = [((1, 1), (0, 0), ((0, 1),)), ((0, 1), (1, 1), ())]
        made = with_orders(task, orders)
        self.assertEqual(made, (task[0], task[1], (orders[1], orders[0])))
        self.assertEqual(with_orders(task, []), (task[0], task[1], ()))
        self.assertEqual(orders[0][0], (1, 1))

    def test_either_orders(self):
        self.assertEqual(either_order((0, 1), (1, 0)), ((0, 1), (1, 0), ((0, 1), (1, 0))))
        self.assertEqual(either_order((1, 0), (0, 1)), ((1, 0), (0, 1), ((0, 1), (1, 0))))


class NewAnswersTest(unittest.TestCase):
    def test_answers_may_be_changed(self):
        bench = (slide_place(3), free_place(2))
        some = [(0, 0), (2, 1)]
        asked = [lambda: contents_of(bench), lambda: steps_from(bench, (1, 0)), lambda: steps_to(bench, (1, 0)),
                 lambda: reached_from(bench, some, []), lambda: pieces_of(bench, some)]
        for ask in asked:
            told = ask()
            before = repr(told)
            self.assertIs(type(told), list)
            told.append(None)
            told[0] = 5
            self.assertEqual(repr(ask()), before)
        self.assertEqual(some, [(0, 0), (2, 1)])


if __name__ == "__main__":
    unittest.main()
