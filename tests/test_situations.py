"""[55] with [5], [13], [3] and homes of [24]: situations, beginnings, deeds, what a deed breaks."""

import random
import unittest

from onorback.benches import either_order
from onorback.errors import NotKept
from onorback.situations import begin_situations, deeds_from
from onorback.wrong import wrong_deeds_from
from tests import reference, samples
from tests.hands import NO, Hands
from tests.samples import free

A, B, C, D, E = (0,), (1,), (2,), (3,), (4,)
LATE, STEP, DIE = "late", ("step",), ("die",)
# The rows lead the contents between to both rests; (5,) is a rest to which no order leads.
BENCH = (free(6),)
TASK = (BENCH, (A, E, (5,)), ((A, E, (A, E)), (E, A, (A, E, (5,)))))
RULE = ((B, A), (C, B), (D, E))
PLAN = (RULE, ((A, B, C, B, D, E), (E, D, (5,), C, A)))

SORTS = {"either": lambda start, goal: either_order(start, goal)[2], "on": lambda start, goal: (goal,),
         "back": lambda start, goal: (start,)}


def sort_of(order):
    start, goal, ends = order
    for name, told in SORTS.items():
        if ends == told(start, goal):
            return name
    return "none" if ends == () else "other"


def plans(seed, many, returning=False):
    """Tasks with plans that keep them, of all sorts."""
    rng = random.Random(seed)
    for k in range(many):
        yield samples.sturdy_kept(rng) if k % 3 == 0 else samples.random_kept(rng, 12, 7, returning)


class SituationsTest(unittest.TestCase):
    def check(self, task, plan, hands, situation):
        told = deeds_from(task, plan, situation)
        self.assertIs(type(told), list)
        self.assertEqual(told, hands.deeds(situation, ("late",)), situation)
        for deed, other in told:
            self.assertEqual(other, hands.led(situation, deed))
            self.assertTrue(other is None or repr(other) in self.known)
        return told

    def test_beginnings(self):
        self.assertEqual(begin_situations(TASK), [(A, -1, -1), (E, -1, -1), ((5,), -1, -1)])
        for task, _ in plans(151, 30):
            self.assertEqual(begin_situations(task), Hands(task, ((), ())).beginnings())
        begin_situations(TASK).clear()
        self.assertEqual(len(begin_situations(TASK)), 3)

    def test_at_a_rest(self):
        self.assertEqual(deeds_from(TASK, PLAN, (A, -1, -1)), [((LATE, 0, 0), (B, -1, -1)), (("order", 0), (A, 0, 0))])
        # A late deed at a rest that changes the home breaks; the same deed with an order under way does not.
        self.assertEqual(deeds_from(TASK, PLAN, (E, -1, -1)), [((LATE, 1, 0), (D, -1, -1)), (("order", 1), (E, 1, 0))])
        self.assertEqual(deeds_from(TASK, PLAN, ((5,), -1, -1)), [((LATE, 1, 2), None)])
        self.assertEqual(deeds_from(TASK, PLAN, ((5,), 1, 2)),
                         [(DIE, ((5,), -1, -1)), ((LATE, 1, 2), (C, 1, -1)), (STEP, (C, 1, 3))])

    def test_a_first_hand_at_work(self):
        self.assertEqual(deeds_from(TASK, PLAN, (A, 0, 0)),
                         [(DIE, (A, -1, -1)), ((LATE, 0, 0), (B, 0, -1)), (STEP, (B, 0, 1))])
        # At (1,) the way comes through twice.
        for at in [1, 3]:
            self.assertEqual(deeds_from(TASK, PLAN, (B, 0, at)),
                             [(DIE, (B, 0, -1)), ((LATE, 0, 1), (C, 0, -1)), ((LATE, 0, 3), (D, 0, -1)),
                              (STEP, (PLAN[1][0][at + 1], 0, at + 1))])
        # The last step comes to rest at the goal.
        self.assertEqual(deeds_from(TASK, PLAN, (D, 0, 4)),
                         [(DIE, (D, 0, -1)), ((LATE, 0, 4), (E, -1, -1)), ((LATE, 1, 1), None), (STEP, (E, -1, -1))])

    def test_a_first_hand_that_has_died(self):
        self.assertEqual(deeds_from(TASK, PLAN, (C, 0, -1)),
                         [((LATE, 0, 2), (B, 0, -1)), ((LATE, 1, 3), (A, -1, -1)), (STEP, (B, 0, -1))])
        self.assertEqual(deeds_from(TASK, PLAN, (B, 0, -1)),
                         [((LATE, 0, 1), (C, 0, -1)), ((LATE, 0, 3), (D, 0, -1)), (STEP, (A, -1, -1))])
        self.assertEqual(deeds_from(TASK, PLAN, (D, 1, -1)),
                         [((LATE, 0, 4), (E, -1, -1)), ((LATE, 1, 1), ((5,), -1, -1)), (STEP, (E, -1, -1))])

    def test_nothing_under_way_at_no_rest(self):
        self.assertEqual(deeds_from(TASK, PLAN, (B, -1, -1)),
                         [((LATE, 0, 1), (C, -1, -1)), ((LATE, 0, 3), None), (STEP, (A, -1, -1))])
        self.assertEqual(deeds_from(TASK, PLAN, (C, -1, -1)),
                         [((LATE, 0, 2), (B, -1, -1)), ((LATE, 1, 3), (A, -1, -1)), (STEP, (B, -1, -1))])
        self.assertEqual(deeds_from(TASK, PLAN, (D, -1, -1)),
                         [((LATE, 0, 4), (E, -1, -1)), ((LATE, 1, 1), None), (STEP, (E, -1, -1))])

    def test_what_is_let(self):
        # A late deed may lead to the start, the goal or an end of the order that is under way, and to nothing else.
        rests = (A, B, C, D)
        orders = ((A, B, (C,)), (C, A, ()), (D, A, (D,)))
        task = ((free(6),), rests, orders)
        plan = ((), ((A, C, B), (C, A), (D, A)))
        self.assertEqual(deeds_from(task, plan, (C, 0, 1)), [(DIE, (C, -1, -1)), ((LATE, 0, 1), (B, -1, -1)),
                                                             ((LATE, 1, 0), (A, -1, -1)), (STEP, (B, -1, -1))])
        plan = ((), ((A, C, B), (C, D, C, A), (D, A)))
        task = (task[0], rests, (orders[0], (C, A, (C, D)), orders[2]))
        self.assertEqual(deeds_from(task, plan, (C, 0, 1)),
                         [(DIE, (C, -1, -1)), ((LATE, 0, 1), (B, -1, -1)), ((LATE, 1, 0), None),
                          ((LATE, 1, 2), (A, -1, -1)),
                          (STEP, (B, -1, -1))])
        self.assertEqual(deeds_from(task, plan, (D, 1, 1)), [(DIE, (D, -1, -1)), ((LATE, 1, 1), (C, -1, -1)),
                                                             ((LATE, 2, 0), (A, -1, -1)), (STEP, (C, 1, 2))])

    def test_a_home_that_is_none_breaks(self):
        # A late step never does this: all contents of kept ways but start and goal have homes; a wrong one may.
        task = ((free(3),), (A, B), (either_order(A, B),))
        plan = ((), ((A, B),))
        self.assertEqual(wrong_deeds_from(task, plan, (A, -1, -1)), [(("wrong", 0, 1), None), (("wrong", 0, 2), None)])
        self.assertEqual(wrong_deeds_from(task, plan, (A, 0, 0)),
                         [(("wrong", 0, 1), (B, -1, -1)), (("wrong", 0, 2), None)])

    def test_no_orders(self):
        task = (BENCH, (A, E), ())
        self.assertEqual(deeds_from(task, (RULE, ()), (A, -1, -1)), [])
        self.assertEqual(deeds_from(task, (RULE, ()), (C, -1, -1)), [(STEP, (B, -1, -1))])

    def test_ordinary_plans(self):
        sorts, deeds = {}, {}
        for task, plan in plans(152, 400):
            hands = Hands(task, plan)
            self.known = {repr(situation) for situation in hands.situations()}
            for order in task[2]:
                sorts[sort_of(order)] = sorts.get(sort_of(order), 0) + 1
            for situation in hands.reached(("late", "wrong")):
                self.assertIn(repr(situation), self.known)
                content, index, at = situation
                where = ("rest" if content in task[1] else "amid", index != -1, at != -1)
                for deed, other in self.check(task, plan, hands, situation):
                    ends = "goes on"
                    if other is None or other[1] == -1 and other[0] in task[1]:
                        ends = "breaks" if other is None else "rests"
                    deeds[(where, deed[0], ends)] = deeds.get((where, deed[0], ends), 0) + 1
        self.assertGreater(min(sorts[name] for name in ["either", "on", "back", "none", "other"]), 20, sorts)
        nothing, at_work, died = (False, False), (True, True), (True, False)
        for where in [("rest",) + nothing, ("amid",) + nothing, ("rest",) + at_work, ("amid",) + at_work,
                      ("amid",) + died]:
            for ends in ["breaks", "rests", "goes on"]:
                # At a rest with nothing under way a late deed that comes to rest again has changed the home.
                if (where, ends) != (("rest",) + nothing, "rests"):
                    self.assertGreater(deeds.get((where, "late", ends), 0), 10, (where, ends))
        self.assertEqual({key for key in deeds if key[1] != "late" and key[2] == "breaks"}, set())
        self.assertNotIn((("rest", False, False), "step", "goes on"), deeds)

    def test_ways_that_come_through_a_content_more_than_once(self):
        many = 0
        for task, plan in plans(153, 300):
            hands = Hands(task, plan)
            self.known = {repr(situation) for situation in hands.situations()}
            for index, way in enumerate(plan[1]):
                twice = [at for at in range(len(way) - 1) if way.count(way[at]) > 1]
                for at in twice:
                    many += 1
                    self.check(task, plan, hands, (way[at], index, at))
        self.assertGreater(many, 100)

    def test_deeds_that_cannot_be_done(self):
        hands = Hands(TASK, PLAN)
        for deed in [("order", 0), ("order", 1), DIE]:
            self.assertEqual(hands.led((B, -1, -1), deed), NO)
            self.assertNotIn(deed, [told for told, _ in deeds_from(TASK, PLAN, (B, -1, -1))])

    def test_not_kept(self):
        rng = random.Random(154)
        seen = set()
        for _ in range(200):
            task, plan = samples.random_planned(rng, 12, 6)
            broken = [k for k in range(len(task[2])) if not reference.keeps(task, plan, k)]
            situation = (task[1][0], -1, -1)
            if not broken:
                deeds_from(task, plan, situation)
                continue
            for ask in [deeds_from, wrong_deeds_from]:
                with self.assertRaises(NotKept) as caught:
                    ask(task, plan, situation)
                self.assertEqual(vars(caught.exception), {"index": broken[0]})
            seen.add(broken[0])
        self.assertGreater(len(seen), 3)

    def test_answers_may_be_changed(self):
        before = repr((TASK, PLAN))
        told = deeds_from(TASK, PLAN, (B, 0, 1))
        expected = list(told)
        told.clear()
        self.assertEqual(deeds_from(TASK, PLAN, (B, 0, 1)), expected)
        self.assertEqual(repr((TASK, PLAN)), before)


if __name__ == "__main__":
    unittest.main()
