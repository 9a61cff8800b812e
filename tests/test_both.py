"""[60] with [13], [14], [55], [56] and [59]: late and wrong hands together."""

import random
import unittest

from onorback.both import bears, breaking_pairs, mixed_deeds_in, mixed_story
from onorback.errors import NoReturn, NotKept
from onorback.late import late_deeds_in, late_distance, late_story
from onorback.wrong import wrong_deeds_in, wrong_distance, wrong_story
from tests import breaking, hands, reference, samples
from tests.breaking import A, GREAT
from tests.hands import Hands
from tests.test_late import LONG
from tests.test_wrong import FAR

STEP, DIE = ("step",), ("die",)
WORDS = ("late", "wrong")


def plans(seed, many):
    rng = random.Random(seed)
    for k in range(many):
        yield samples.random_kept(rng, 10, 6) if k % 4 == 0 else samples.sturdy_kept(rng)


class BothTest(unittest.TestCase):
    def agree(self, task, plan, told, thing):
        numbers = mixed_deeds_in(task, plan, thing)
        self.assertEqual(repr(numbers), repr(told.numbers(WORDS, thing)), (task, plan, repr(thing)[:500]))
        return numbers

    def test_small_ones(self):
        self.assertEqual(breaking_pairs(*LONG), [(0, 1), (2, 0)])
        self.assertEqual(breaking_pairs(*breaking.LINE), [(0, 1), (1, 0)])
        self.assertEqual(breaking_pairs(*breaking.ALONE), [])
        self.assertEqual(breaking_pairs(*breaking.STUCK), [(0, 1)])
        self.assertIs(bears(*LONG, 1, 0), True)
        self.assertIs(bears(*LONG, 2, 0), False)
        self.assertIs(bears(*LONG, 0, 1), False)
        self.assertIs(bears(*LONG, 0, 0), True)
        self.assertEqual(mixed_story(*LONG, 1, 0), None)

    def test_stories_with_both(self):
        task, plan = LONG
        D = (3,)
        self.assertEqual(mixed_deeds_in(task, plan, (A, [("late", 0, 0), ("wrong", 0, 3)])), (1, 1))
        self.assertEqual(mixed_deeds_in(task, plan, (A, [("wrong", 0, 2), ("late", 0, 2)])), (1, 1))
        self.assertEqual(mixed_deeds_in(task, plan, (A, [("wrong", 0, 2), STEP, STEP, ("wrong", 0, 4)])), (0, 2))
        self.assertEqual(mixed_deeds_in(task, plan, (A, [("order", 0), DIE, ("wrong", 0, 3)])), (0, 1))
        for thing in [(A, []), (A, [STEP]), (A, [("wrong", 0, 2)]), (A, [("late", 0, 0)]), (A, [("wrong", 0, 3), STEP]),
                      (A, [("wrong", 0, 3), ("wrong", 0, 2)]), (A, [("order", 0), ("wrong", 0, 3)]),
                      (D, [("wrong", 0, 0)]), (A, [("wrong", 0, 0)]), (A, [("late", 1, 0)]), (A, [("mixed", 0, 3)]),
                      ((False,), [("wrong", 0, 3)]), (A, [("wrong", False, 3)]), (A, (("wrong", 0, 3),)),
                      [A, [("wrong", 0, 3)]], None]:
            self.assertIsNone(mixed_deeds_in(task, plan, thing), thing)

    def test_pairs_against_a_search_by_both_numbers(self):
        seen = {}
        amid = 0
        for task, plan in plans(191, 240):
            before = repr((task, plan))
            told = Hands(task, plan)
            late, wrong = late_distance(task, plan), wrong_distance(task, plan)
            pairs = breaking_pairs(task, plan)
            self.assertEqual((type(pairs), pairs), (list, told.pairs(WORDS, (late or 0) + 1, (wrong or 0) + 1)))
            self.assertEqual([pair for pair in pairs if pair[1] == 0], [(late, 0)] if late else [])
            self.assertEqual([pair for pair in pairs if pair[0] == 0], [(0, wrong)] if wrong else [])
            self.assertEqual(breaking_pairs(task, plan), pairs)
            self.assertEqual(repr((task, plan)), before)
            seen[len(pairs)] = seen.get(len(pairs), 0) + 1
            amid += len([pair for pair in pairs if min(pair) > 0])
        self.assertTrue(all(seen.get(many, 0) > 10 for many in range(4)) and amid > 20, (seen, amid))

    def test_below_at_and_above_each_pair(self):
        for task, plan in plans(192, 80):
            told = Hands(task, plan)
            pairs = breaking_pairs(task, plan)
            most = max([number for pair in pairs for number in pair], default=0) + 2
            numbers = list(range(most)) + GREAT[-3:]
            for late in numbers:
                for wrong in numbers:
                    broken = any(pair[0] <= late and pair[1] <= wrong for pair in pairs)
                    self.assertIs(bears(task, plan, late, wrong), not broken)
                    story = mixed_story(task, plan, late, wrong)
                    if not broken:
                        self.assertIsNone(story)
                        continue
                    self.assertEqual((type(story), type(story[1])), (tuple, list))
                    many = self.agree(task, plan, told, story)
                    self.assertTrue(many[0] <= late and many[1] <= wrong, (many, late, wrong))
                    if (late, wrong) in pairs:
                        self.assertEqual(many, (late, wrong))

    def test_late_stories_and_wrong_stories_are_mixed_ones(self):
        for task, plan in plans(193, 60):
            for story, numbers in [(late_story(task, plan), late_deeds_in), (wrong_story(task, plan), wrong_deeds_in)]:
                if story is not None:
                    many = mixed_deeds_in(task, plan, story)
                    self.assertEqual((sum(many), min(many)), (numbers(task, plan, story), 0))

    def test_stories_otherwise(self):
        rng = random.Random(194)
        seen = {True: 0, False: 0}
        for task, plan in plans(195, 150):
            told = Hands(task, plan)
            for pair in breaking_pairs(task, plan):
                rest, deeds = mixed_story(task, plan, *pair)
                others = told.forms() + [("late", 99, 0), ("wrong", 0, 9), ("wrong", 9, 0), ("order", 99), None]
                for _ in range(6):
                    thing = (rest, samples.exchanged(rng, deeds, others))
                    seen[self.agree(task, plan, told, thing) is not None] += 1
                self.agree(task, plan, told, (rng.choice(task[1]), deeds))
        self.assertGreater(min(seen.values()), 50, seen)

    def test_bent_stories(self):
        task, plan = FAR
        task = (task[0], task[1], task[2] + ((task[2][0][1], task[2][0][0], task[2][0][2]),))
        plan = (plan[0], plan[1] + (plan[1][0][::-1],))
        told = Hands(task, plan)
        for late, wrong in [(1, 1), (2, 0), (0, 2)]:
            rest, deeds = mixed_story(task, plan, late, wrong)
            for thing in breaking.bent_lists(deeds):
                self.agree(task, plan, told, (rest, thing))
            for thing in breaking.lists_with_truths(deeds):
                self.assertIsNone(self.agree(task, plan, told, (rest, thing)))
            for thing in samples.bends(rest):
                self.agree(task, plan, told, (thing, deeds))

    def test_values_of_any_kind(self):
        task, plan = LONG
        told = Hands(task, plan)
        rest, deeds = mixed_story(task, plan, 0, 1)
        for thing in samples.odd_values():
            for given in [thing, (rest, thing), (thing, deeds), (rest, [thing]), (rest, [thing] + deeds),
                          (rest, [("wrong", thing, 3)]), (rest, [("wrong", 0, thing)]), (rest, [(thing, 0, 3)])]:
                self.agree(task, plan, told, given)

    def test_errors_in_their_order(self):
        rng = random.Random(196)
        seen = {NotKept: set(), NoReturn: set()}
        while min(len(indexes) for indexes in seen.values()) < 3:
            if rng.random() < 0.4:
                task, plan = samples.random_planned(rng, 12, 5)
            else:
                task, plan = samples.random_kept(rng, 12, 5, False)
            broken = [k for k in range(len(task[2])) if not reference.keeps(task, plan, k)]
            index = hands.first_without_return(task)
            if not broken and index is None:
                continue
            error, index = (NotKept, broken[0]) if broken else (NoReturn, index)
            for ask in [lambda: breaking_pairs(task, plan), lambda: bears(task, plan, 0, 0),
                        lambda: mixed_story(task, plan, 1, 1), lambda: mixed_deeds_in(task, plan, None),
                        lambda: mixed_deeds_in(task, plan, (A, [("wrong", 0, 1)]))]:
                with self.assertRaises(error) as caught:
                    ask()
                self.assertEqual(vars(caught.exception), {"index": index})
            seen[error].add(index)

    def test_answers_may_be_changed(self):
        for ask in [lambda: breaking_pairs(*LONG), lambda: mixed_story(*LONG, 2, 0)[1]]:
            before = repr(ask())
            ask().clear()
            self.assertEqual(repr(ask()), before)
        thing = (A, [("late", 0, 0), ("wrong", 0, 3)])
        before = repr(thing)
        for _ in range(2):
            self.assertEqual(mixed_deeds_in(*LONG, thing), (1, 1))
        self.assertEqual(repr(thing), before)


if __name__ == "__main__":
    unittest.main()
