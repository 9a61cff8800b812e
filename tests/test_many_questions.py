"""[60] with [3], [56], [59] and [67]: many questions of one plan, of plans like it, and of plans on great benches."""

import random
import sys
import unittest

from onorback.benches import either_order
from onorback.book import Book
from onorback.both import bears, breaking_pairs, mixed_deeds_in, mixed_story
from onorback.desk import Desk
from onorback.errors import Broken, NoReturn, NotKept, OnError
from onorback.forms import is_plan, is_task
from onorback.late import barrier_of, is_barrier, late_deeds_in, late_distance, late_story
from onorback.reader import read_plan, read_task
from onorback.sides import side_plan, side_task
from onorback.texts import show_task
from onorback.wrong import is_wrong_barrier, wrong_barrier_of, wrong_deeds_in, wrong_distance, wrong_story
from tests import hands, reference, samples
from tests.hands import Hands
from tests.samples import dial, free, rise, slide

TASK = read_task("free 2\nfree 2\nfree 2\nfree 2\nfree 2\nrests 00110 11001\neither 00110 11001\neither 11001 00110")
PLAN = read_plan(TASK, """row 00000 00100
row 00001 01001
row 00010 00110
row 00011 00010
row 00100 00110
row 00101 00100
row 00111 00110
row 01000 01001
row 01001 11001
row 01010 01110
row 01011 01001
row 01100 01110
row 01101 11101
row 01110 00110
row 01111 00111
row 10000 11000
row 10001 11001
row 10010 00010
row 10011 10001
row 10100 00100
row 10101 10001
row 10110 00110
row 10111 10110
row 11000 11001
row 11010 11011
row 11011 11001
row 11100 11101
row 11101 11001
row 11110 01110
row 11111 11011
way 00110 00100 00000 10000 00000 10000 10001 11001
way 11001 11000 11010 10010 10110 00110""")
PAIRS = [(0, 3), (1, 2), (2, 1), (3, 0)]

# Benches of 32 to 36 contents.
GREAT = [(free(2),) * 5, (free(6), free(6)), (slide(6), slide(6)), (dial(6), slide(6)), (free(3), free(3), free(4)),
         (slide(4), slide(4), free(2)), (free(2), free(2), free(3), free(3)), (rise(4), free(3), slide(3))]

ASKED = [breaking_pairs, late_distance, wrong_distance, late_story, wrong_story, barrier_of, wrong_barrier_of,
         lambda task, plan: bears(task, plan, 1, 1), lambda task, plan: mixed_story(task, plan, 2, 2)]


def great_plans(seed, many):
    """Tasks on great benches with plans that keep them."""
    rng = random.Random(seed)
    for k in range(many):
        bench = GREAT[k // 2 % len(GREAT)]
        yield sturdy(rng, bench) if k % 2 else samples.random_kept(rng, 36, rng.choice([6, 12, 60]), True, bench)


def sturdy(rng, bench):
    """A task with a plan of which several late or wrong deeds are needed to break it, if this can be."""
    return max([samples.sturdy_kept(rng, bench) for _ in range(6)], key=lambda kept: len(breaking_pairs(*kept)))


def calls_of(ask):
    """How many functions are called, those of Python too, by a question."""
    events = []
    before = sys.getprofile()
    sys.setprofile(lambda frame, event, thing: events.append(event))
    try:
        ask()
    finally:
        sys.setprofile(before)
    return len([event for event in events if event in ("call", "c_call")])


def answer(ask, task, plan):
    try:
        return repr(ask(task, plan))
    except OnError as error:
        return type(error).__name__ + repr(vars(error))


class ManyQuestionsTest(unittest.TestCase):
    def test_one_plan(self):
        self.assertTrue(is_task(TASK) and is_plan(TASK, PLAN))
        before = repr((TASK, PLAN))
        stories = set()
        for _ in range(50):
            self.assertEqual(breaking_pairs(TASK, PLAN), PAIRS)
            self.assertIs(bears(TASK, PLAN, 0, 0), True)
            story = mixed_story(TASK, PLAN, 99, 99)
            self.assertIn(mixed_deeds_in(TASK, PLAN, story), PAIRS)
            stories.add(repr(story))
        self.assertEqual(len(stories), 1)
        for late in range(5):
            for wrong in range(5):
                broken = late + wrong >= 3
                self.assertIs(bears(TASK, PLAN, late, wrong), not broken)
                story = mixed_story(TASK, PLAN, late, wrong)
                many = mixed_deeds_in(TASK, PLAN, story)
                self.assertEqual(many is not None, broken)
                self.assertTrue(many is None or (many[0] <= late and many[1] <= wrong))
        self.assertEqual((late_distance(TASK, PLAN), wrong_distance(TASK, PLAN)), (3, 3))
        self.assertEqual(repr((TASK, PLAN)), before)

    def test_what_is_returned_may_be_changed_amid(self):
        told = {ask: answer(ask, TASK, PLAN) for ask in ASKED}
        for _ in range(3):
            for ask in ASKED:
                given = ask(TASK, PLAN)
                for part in given if isinstance(given, tuple) else [given]:
                    if isinstance(part, list):
                        part.reverse()
                        part.append(None)
                self.assertEqual(answer(ask, TASK, PLAN), told[ask])

    def test_a_question_asks_little(self):
        """To go through what each deed leads to, one after the other, takes some 9,000 calls."""
        for ask in [lambda: breaking_pairs(TASK, PLAN), lambda: wrong_distance(TASK, PLAN), lambda: late_story(TASK, PLAN),
                    lambda: wrong_story(TASK, PLAN), lambda: late_distance(TASK, PLAN)]:
            self.assertLess(calls_of(ask), 1500)
        for late, wrong in [(0, 0), (0, 3), (3, 0), (1, 2), (99, 99), (10 ** 39, 10 ** 39)]:
            self.assertLess(calls_of(lambda: bears(TASK, PLAN, late, wrong)), 1500)
            self.assertLess(calls_of(lambda: mixed_story(TASK, PLAN, late, wrong)), 1500)
        book = Book(TASK)
        book.do(("plan", PLAN))
        for promise in [("late", 3), ("wrong", 3), ("late", 1)]:
            self.assertLess(calls_of(lambda: book.do(("promise", promise))), 3000)
        desk = Desk(show_task(TASK))
        for line in ["distance late", "distance wrong", "late 1", "wrong 1"]:
            self.assertLess(calls_of(lambda: desk.execute(line)), 3000)

    def test_promises(self):
        book = Book(TASK)
        book.do(("plan", PLAN))
        for _ in range(10):
            book.do(("promise", ("late", 3)))
            book.do(("promise", ("wrong", 3)))
        for word, story in [("late", late_story), ("wrong", wrong_story)]:
            with self.assertRaises(Broken) as caught:
                book.do(("promise", (word, 4)))
            self.assertEqual(vars(caught.exception), {"index": 20, "story": story(TASK, PLAN)})
        self.assertEqual(len(book.promises_now()), 20)

    def test_plans_in_turn(self):
        """Each question is of its own plan, whatever was asked of another one ahead."""
        rng = random.Random(201)
        rows, ways = PLAN
        plans = [PLAN, ((), ways)]
        for k, (one, _) in enumerate(rows):
            other = rng.choice(samples.next_ones(TASK[0], one))
            plans += [(rows[:k] + rows[k + 1:], ways), (rows[:k] + ((one, other),) + rows[k + 1:], ways)]
        asked = [(TASK, plan) for plan in plans]
        # As many orders, of which one does not come back.
        orders = (TASK[2][0], (TASK[1][1], TASK[1][0], ()))
        asked += [((TASK[0], TASK[1], orders), PLAN), ((TASK[0], TASK[1], TASK[2][:1]), (rows, ways[:1]))]
        told = [[answer(ask, task, plan) for ask in ASKED] for task, plan in asked]
        seen = {answers[0] for answers in told}
        self.assertIn(repr(PAIRS), seen)
        self.assertIn("NotKept{'index': 0}", seen)
        self.assertIn("NoReturn{'index': 0}", seen)
        for _ in range(300):
            k = rng.randrange(len(asked))
            index = rng.randrange(len(ASKED))
            self.assertEqual(answer(ASKED[index], *asked[k]), told[k][index])
        for k in range(0, len(asked), 4):
            self.agree(*asked[k])

    def agree(self, task, plan):
        """Ask a plan all, and compare with a search from situation to situation; return the pairs."""
        broken = [k for k in range(len(task[2])) if not reference.keeps(task, plan, k)]
        index = hands.first_without_return(task)
        if broken or index is not None:
            error = NotKept if broken else NoReturn
            with self.assertRaises(error) as caught:
                breaking_pairs(task, plan)
            self.assertEqual(vars(caught.exception), {"index": broken[0] if broken else index})
            return []
        told = Hands(task, plan)
        late, wrong = late_distance(task, plan), wrong_distance(task, plan)
        pairs = breaking_pairs(task, plan)
        self.assertEqual(pairs, told.pairs(("late", "wrong"), (late or 0) + 1, (wrong or 0) + 1), (task, plan))
        self.assertEqual(late, min([pair[0] for pair in pairs if pair[1] == 0], default=None))
        self.assertEqual(wrong, min([pair[1] for pair in pairs if pair[0] == 0], default=None))
        for pair in pairs:
            self.assertEqual(mixed_deeds_in(task, plan, mixed_story(task, plan, *pair)), pair)
            self.assertEqual(told.numbers(("late", "wrong"), mixed_story(task, plan, *pair)), pair)
            self.assertIs(bears(task, plan, *pair), False)
            for less in [(pair[0] - 1, pair[1]), (pair[0], pair[1] - 1)]:
                if min(less) >= 0:
                    self.assertIs(bears(task, plan, *less), True)
                    self.assertIsNone(mixed_story(task, plan, *less))
        if late is not None:
            self.assertEqual(late_deeds_in(task, plan, late_story(task, plan)), late)
            self.assertIs(is_barrier(task, plan, late, barrier_of(task, plan)), True)
        if wrong is not None:
            self.assertEqual(wrong_deeds_in(task, plan, wrong_story(task, plan)), wrong)
            self.assertIs(is_wrong_barrier(task, plan, wrong, wrong_barrier_of(task, plan)), True)
        return pairs

    def test_great_benches(self):
        many = {}
        amid = 0
        for task, plan in great_plans(202, 64):
            pairs = self.agree(task, plan)
            many[len(pairs)] = many.get(len(pairs), 0) + 1
            amid += len([pair for pair in pairs if min(pair) > 0])
        self.assertTrue(min([many.get(k, 0) for k in (1, 2, 3)]) > 5 and amid > 10, (many, amid))

    def test_many_orders_and_long_ways(self):
        """As many rests and orders as can be, with ways that come through rests and through contents again."""
        rng = random.Random(203)
        for bench in GREAT:
            everywhere = samples.contents(bench)
            rests = tuple(sorted(rng.sample(everywhere, 8)))
            rule = samples.forest_rule(rng, (bench, rests, ()), 1)
            homes = samples.homes_by((bench, rests, ()), rule)
            planned = []
            for start in rests:
                for goal in rng.sample([rest for rest in rests if rest != start], 3):
                    way = samples.random_way(rng, bench, start, goal)
                    if way and all(homes[content] for content in way):
                        needed = {homes[content] for content in way[1:-1]}
                        planned.append(((start, goal, samples.kept_ends(rng, rests, start, goal, needed)), way))
            planned.sort()
            task = (bench, rests, tuple(order for order, _ in planned))
            self.agree(task, (rule, tuple(way for _, way in planned)))

    def test_tasks_beside_each_other(self):
        """What is returned may go beyond the bounds, and be passed in again."""
        rng = random.Random(204)
        for _ in range(6):
            (one, plan), (other, its_plan) = samples.sturdy_kept(rng, (slide(6),)), samples.random_kept(rng, 8, 5)
            self.agree(side_task(one, other), side_plan(one, plan, other, its_plan))

    def test_no_order_and_no_home(self):
        for bench in GREAT:
            rest = samples.contents(bench)[7]
            task = (bench, (rest,), ())
            rule = samples.forest_rule(random.Random(205), task, 1)
            for k in range(len(rule) + 1):
                pairs = self.agree(task, (rule[:k], ()))
                # Late deeds need an order; wrong ones break if there is any content without a home.
                homes = set(samples.homes_by(task, rule[:k]).values())
                self.assertEqual([pair[0] for pair in pairs], [0] if None in homes else [])

    def test_ends_of_all_sorts(self):
        """An order lets its start and its goal be come to, even where they are none of its ends."""
        A, B, C, D, E, F = [(k,) for k in range(6)]
        for ends in [(), (A,), (F,), (A, F), (C,), (A, C, F)]:
            task = ((free(6),), (A, C, F), ((A, F, ends), either_order(C, A), either_order(F, A), (F, C, (C,))))
            plan = (((B, A), (D, C), (E, F)), ((A, F), (C, B, A), (F, E, A), (F, D, C)))
            self.agree(task, plan)

    def test_back_orders_there_and_back_by_other_ways(self):
        """From within a way a late step to the goal, which is no end, does not break while its order is under way."""
        for half in [2, 3]:
            places = [(k,) for k in range(2 * half)]
            start, goal = places[0], places[half]
            there, back = places[:half + 1], places[half:] + places[:1]
            rule = tuple((one, other) for one, other in zip(there[1:-1] + back[1:-1], there[:-2] + back[:-2]))
            task = ((dial(2 * half),), (start, goal), ((start, goal, (start,)), (goal, start, (goal,))))
            self.assertEqual(self.agree(task, (rule, (tuple(there), tuple(back)))), [(0, 1), (half, 0)])

    def test_as_many_wrong_deeds_as_places(self):
        """All contents but the last one have a home: each place has to be changed to come there."""
        for bench in [(free(2),), (free(2),) * 3, (free(2),) * 5, (slide(4), slide(3)), (slide(2), dial(3), free(6))]:
            everywhere = samples.contents(bench)
            task = (bench, tuple(everywhere[:1]), ())
            plan = (tuple((content, self.nearer(content)) for content in everywhere[1:-1]), ())
            self.assertTrue(is_plan(task, plan))
            self.assertEqual(self.agree(task, plan), [(0, len(bench))])
            self.assertIs(bears(task, plan, 99, len(bench) - 1), True)
            self.assertIs(bears(task, plan, 99, len(bench)), False)

    def nearer(self, content):
        """The content with a value less at the last place that has one to lose."""
        place = max(k for k, value in enumerate(content) if value)
        return content[:place] + (content[place] - 1,) + content[place + 1:]


if __name__ == "__main__":
    unittest.main()
