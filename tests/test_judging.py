"""[28] with KEEPS of [2]: kept orders, first breaks, stories."""

import random
import unittest

from onorback.judging import broken_orders, first_break, is_story, keeps_order, keeps_task, same_homes, story_of
from tests import reference, samples
from tests.test_player import A, B, C, DIE, PLAN, ROUND, RULE, STEP, TASK, WAYS, X, Y, Z


def all_stories(task, plan, index):
    """All lists of deeds that may be stories by their form and are, up to a length that none exceeds."""
    found = []
    for at in range(1, len(plan[1][index]) - 1):
        for many in range(len(plan[0]) + 2):
            thing = [("order", index)] + [STEP] * at + [DIE] + [STEP] * many
            try:
                if reference.is_story(task, plan, index, thing):
                    found.append(thing)
            except (KeyError, TypeError):
                pass
    return found


class JudgingTest(unittest.TestCase):
    def test_kept_and_not_kept(self):
        self.assertEqual(broken_orders(TASK, PLAN), [0, 2])
        self.assertEqual([keeps_order(TASK, PLAN, k) for k in range(4)], [False, True, False, True])
        self.assertIs(keeps_task(TASK, PLAN), False)
        self.assertEqual(first_break(TASK, PLAN, 0), (3, C))
        self.assertIsNone(first_break(TASK, PLAN, 1))
        self.assertEqual(first_break(TASK, PLAN, 2), (1, None))
        self.assertEqual(first_break(TASK, ROUND, 0), (1, None))
        self.assertIs(keeps_task((TASK[0], TASK[1], ()), (RULE, ())), True)
        self.assertEqual(broken_orders((TASK[0], TASK[1], ()), (RULE, ())), [])

    def test_whatever_the_ends_are_if_the_way_is_one_step(self):
        self.assertEqual(TASK[2][1][2], ())
        self.assertIs(keeps_order(TASK, ((), WAYS), 1), True)

    def test_stories(self):
        self.assertEqual(story_of(TASK, PLAN, 0), [("order", 0), STEP, STEP, STEP, DIE])
        self.assertEqual(story_of(TASK, PLAN, 2), [("order", 2), STEP, DIE])
        self.assertIsNone(story_of(TASK, PLAN, 1))
        self.assertIs(is_story(TASK, PLAN, 0, [("order", 0), STEP, STEP, STEP, DIE]), True)
        # Rows that lead round are told up to the content that comes again; here a later death tells less.
        self.assertIs(is_story(TASK, ROUND, 0, [("order", 0), STEP, DIE, STEP, STEP]), True)
        self.assertIs(is_story(TASK, ROUND, 0, [("order", 0), STEP, DIE, STEP]), False)
        self.assertIs(is_story(TASK, ROUND, 0, [("order", 0), STEP, DIE, STEP, STEP, STEP]), False)
        self.assertEqual(len(story_of(TASK, ROUND, 0)), 5)

    def test_no_stories(self):
        story = [("order", 2), STEP, DIE]
        self.assertIs(is_story(TASK, PLAN, 2, story), True)
        for thing in [story[:2], story + [STEP], story + [DIE], tuple(story), [], [("order", 2), DIE],
                      [("order", 2), STEP, STEP], [("order", 2), STEP, STEP, DIE], [("order", 0), STEP, DIE],
                      [["order", 2], STEP, DIE], [("order", 2), ["step"], DIE], [("order", 2), STEP, "die"],
                      [("order", 2), STEP, ("die", 0)], [("order", "2"), STEP, DIE], story + [None]]:
            self.assertIs(is_story(TASK, PLAN, 2, thing), False, thing)
        for thing in samples.odd_values():
            self.assertIs(is_story(TASK, PLAN, 2, thing), False)
            self.assertIs(is_story(TASK, PLAN, 2, [thing]), False)
            self.assertIs(is_story(TASK, PLAN, 2, [("order", thing), STEP, DIE]), type(thing) is int and thing == 2)
            self.assertIs(is_story(TASK, PLAN, 2, [("order", 2), thing, DIE]), thing == STEP)

    def test_a_truth_is_no_index(self):
        task = (TASK[0], TASK[1], (TASK[2][1], TASK[2][2]))
        plan = ((), WAYS[1:3])
        self.assertIs(is_story(task, plan, 1, [("order", 1), STEP, DIE]), True)
        self.assertIs(is_story(task, plan, 1, [("order", True), STEP, DIE]), False)
        task = (TASK[0], TASK[1], (TASK[2][2],))
        self.assertIs(is_story(task, ((), (WAYS[2],)), 0, [("order", 0), STEP, DIE]), True)
        self.assertIs(is_story(task, ((), (WAYS[2],)), 0, [("order", False), STEP, DIE]), False)

    def test_death_at_a_rest_amid(self):
        task = (TASK[0], TASK[1], ((A, B, (B,)),))
        plan = ((), ((A, C, X, B),))
        self.assertEqual(first_break(task, plan, 0), (1, C))
        self.assertEqual(story_of(task, plan, 0), [("order", 0), STEP, DIE])
        plan = ((), ((A, Z, A, B, A, B),))
        self.assertEqual(first_break(task, plan, 0), (1, None))
        self.assertIs(is_story(task, plan, 0, [("order", 0), STEP, STEP, DIE]), True)
        self.assertIs(is_story(task, plan, 0, [("order", 0), STEP, STEP, STEP, DIE]), False)

    def test_the_fewest_deeds_of_all_deaths(self):
        # The first death is told by four rows that lead home, the second one by none.
        task = (TASK[0], (A, B), ((A, B, (B,)),))
        plan = ((((2,), (3,)), ((3,), (4,)), ((4,), (0,))), ((A, (2,), (5,), B),))
        self.assertEqual(first_break(task, plan, 0), (1, A))
        self.assertEqual(story_of(task, plan, 0), [("order", 0), STEP, STEP, DIE])
        self.assertIs(is_story(task, plan, 0, [("order", 0), STEP, DIE, STEP, STEP, STEP]), True)

    def test_ordinary_plans(self):
        rng = random.Random(17)
        kept = 0
        for _ in range(120):
            task, plan = samples.random_planned(rng, 36, rng.choice([6, 20, 60]))
            wanted = [k for k in range(len(task[2])) if not reference.keeps(task, plan, k)]
            self.assertEqual(broken_orders(task, plan), wanted)
            self.assertIs(keeps_task(task, plan), wanted == [])
            for k, (start, goal, ends) in enumerate(task[2]):
                self.assertIs(keeps_order(task, plan, k), k not in wanted)
                homes = [(at, reference.home(task, plan[0], plan[1][k][at])) for at in range(1, len(plan[1][k]) - 1)]
                bad = [(at, home) for at, home in homes if home not in ends]
                self.assertEqual(first_break(task, plan, k), bad[0] if bad else None)
                self.assertEqual(story_of(task, plan, k) is None, bad == [])
                kept += bad == []
        self.assertGreater(kept, 50)

    def test_ordinary_stories(self):
        rng = random.Random(18)
        broken = 0
        for _ in range(60):
            task, plan = samples.random_planned(rng, 12, 8)
            for k in range(len(task[2])):
                stories = all_stories(task, plan, k)
                story = story_of(task, plan, k)
                if not stories:
                    self.assertIsNone(story)
                    continue
                broken += 1
                self.assertIn(story, stories)
                self.assertEqual(len(story), min(len(one) for one in stories))
                for one in stories:
                    self.assertIs(is_story(task, plan, k, one), True)
                for bent in [story + [STEP], story[:-1], story + [DIE], story[:1] + story[2:], story[::-1]]:
                    self.assertIs(is_story(task, plan, k, bent), bent in stories)
        self.assertGreater(broken, 50)

    def test_same_homes(self):
        self.assertIs(same_homes(TASK, RULE, RULE), True)
        self.assertIs(same_homes(TASK, ((X, B), (Y, B)), RULE), True)
        self.assertIs(same_homes(TASK, ((X, B),), RULE), False)
        self.assertIs(same_homes(TASK, ((X, Y), (Y, X)), ()), True)
        rng = random.Random(19)
        for _ in range(40):
            task = samples.random_task(rng, None, 6)
            one, other = samples.random_rule(rng, task, 0.8), samples.random_rule(rng, task, 0.8)
            homes = [[reference.home(task, rule, c) for c in samples.contents(task[0])] for rule in (one, other)]
            self.assertIs(same_homes(task, one, other), homes[0] == homes[1])

    def test_answers_may_be_changed(self):
        for ask in [lambda: broken_orders(TASK, PLAN), lambda: story_of(TASK, PLAN, 0)]:
            told = ask()
            before = repr(told)
            told.append(None)
            self.assertEqual(repr(ask()), before)
        thing = [("order", 2), STEP, DIE]
        is_story(TASK, PLAN, 2, thing)
        self.assertEqual(thing, [("order", 2), STEP, DIE])


if __name__ == "__main__":
    unittest.main()
