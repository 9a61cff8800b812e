"""What is tested of late hands [56] and of wrong hands [59] alike."""

import random

from onorback.benches import either_order
from onorback.errors import NoReturn, NotKept
from tests import hands, reference, samples
from tests.hands import Hands

A, B, C = (0,), (1,), (2,)
GREAT = [100, 2 ** 31, 2 ** 63 - 1, 2 ** 63, 10 ** 30, 10 ** 39]

# One rest alone; two rests on a line; a rest beside contents without a home.
ALONE = (((samples.slide(3),), (B,), ()), (((A, B), (C, B)), ()))
LINE = (((samples.slide(3),), (A, C), (either_order(A, C), either_order(C, A))), (((B, A),), ((A, B, C), (C, B, A))))
STUCK = (((samples.slide(3),), (A,), ()), ((), ()))


def bent_lists(items):
    """Lists with one item bent in all ways, and other things that come of a list."""
    for bent in samples.bends(tuple(items)):
        yield list(bent) if isinstance(bent, tuple) else bent
    yield tuple(items)


def lists_with_truths(items):
    for bent in samples.as_truths(tuple(items)):
        if isinstance(bent, tuple):
            yield list(bent)


class Breaking:
    """The tests; subclasses tell the word of the deeds and the functions."""

    word = distance = story = numbers = barrier = is_barrier = None
    places = [("late", 0), ("wrong", 1)]

    def plans(self, seed, many):
        rng = random.Random(seed)
        for k in range(many):
            yield samples.sturdy_kept(rng) if k % 2 else samples.random_kept(rng, 10, 6,
                                                                             self.word == "late" or k % 4 == 0)

    def number_told(self, told, thing):
        """The number of deeds with the word in a story, by the definitions told anew, or None."""
        numbers = told.numbers((self.word,), thing)
        return None if numbers is None else numbers[dict(self.places)[self.word]]

    def agree_story(self, task, plan, told, thing):
        number = self.numbers(task, plan, thing)
        self.assertEqual(repr(number), repr(self.number_told(told, thing)), (task, plan, repr(thing)[:500]))
        return number

    def agree_barrier(self, task, plan, told, many, thing):
        answer = self.is_barrier(task, plan, many, thing)
        self.assertIs(answer, told.is_barrier(self.word, many, thing), (task, plan, many, repr(thing)[:500]))
        return answer

    def test_distances_stories_and_barriers(self):
        seen = {}
        for task, plan in self.plans(161, 200):
            told = Hands(task, plan)
            before = repr((task, plan))
            distance = self.distance(task, plan)
            self.assertEqual(distance, told.distance(self.word))
            story, barrier = self.story(task, plan), self.barrier(task, plan)
            seen[distance] = seen.get(distance, 0) + 1
            if distance is None:
                self.assertEqual((story, barrier), (None, None))
            else:
                self.assertEqual((type(story), type(story[1]), type(barrier)), (tuple, list, list))
                self.assertEqual(self.agree_story(task, plan, told, story), distance)
                self.assertIs(self.agree_barrier(task, plan, told, distance, barrier), True)
                self.assertIs(self.agree_barrier(task, plan, told, distance + 1, barrier), False)
                for many in [1, distance - 1, distance + 2] + GREAT[-2:]:
                    self.agree_barrier(task, plan, told, max(1, many), barrier)
            self.assertEqual(self.story(task, plan), story)
            self.assertEqual(self.barrier(task, plan), barrier)
            self.assertEqual(repr((task, plan)), before)
        self.assertTrue(all(seen.get(distance, 0) > 5 for distance in [None, 1, 2]), seen)

    def test_stories_of_any_length(self):
        rng = random.Random(162)
        seen = {}
        for task, plan in self.plans(163, 120):
            told = Hands(task, plan)
            for _ in range(6):
                situation = (rng.choice(task[1]), -1, -1)
                story = (situation[0], [])
                while situation is not None and len(story[1]) < 12:
                    deeds = told.deeds(situation, (self.word,))
                    if not deeds:
                        break
                    # What goes on is chosen rather than what breaks, so that stories become long.
                    going = [deed for deed in deeds if deed[1] is not None]
                    deed, situation = rng.choice(going if going and rng.random() < 0.8 else deeds)
                    story[1].append(deed)
                number = self.agree_story(task, plan, told, story)
                seen[number] = seen.get(number, 0) + 1
                others = told.forms() + [("late", 99, 0), ("wrong", 9, 0), ("order", -1), ("step", 0), None]
                for _ in range(4):
                    self.agree_story(task, plan, told, (story[0], samples.exchanged(rng, story[1], others)))
                self.agree_story(task, plan, told, (rng.choice(samples.contents(task[0])), story[1]))
                self.agree_story(task, plan, told, (story[0], story[1][:-1]))
                self.agree_story(task, plan, told, (story[0], story[1] * 2))
        self.assertTrue(all(seen.get(number, 0) > 10 for number in [None, 1, 2, 3]), seen)

    def test_bent_stories(self):
        for task, plan in [LINE] + [pair for pair in self.plans(164, 12) if self.distance(*pair) is not None][:3]:
            told = Hands(task, plan)
            rest, deeds = self.story(task, plan)
            for thing in bent_lists(deeds):
                self.agree_story(task, plan, told, (rest, thing))
            for thing in samples.bends(rest):
                self.agree_story(task, plan, told, (thing, deeds))
            for thing in [(rest,), (deeds, rest), (rest, deeds, []), [rest, deeds], rest, deeds, (), ((rest, deeds),),
                          (rest, []), (rest, tuple(deeds)), (list(rest), deeds)]:
                self.assertIsNone(self.agree_story(task, plan, told, thing))
            for thing in lists_with_truths(deeds):
                self.assertIsNone(self.agree_story(task, plan, told, (rest, thing)))
            for thing in samples.as_truths(rest):
                self.assertIsNone(self.agree_story(task, plan, told, (thing, deeds)))

    def test_bent_barriers(self):
        for task, plan in [LINE] + [p for p in self.plans(165,
                                                          30) if self.distance(*p) and len(self.barrier(*p)) < 14][:3]:
            told = Hands(task, plan)
            many = self.distance(task, plan)
            barrier = self.barrier(task, plan)
            for thing in bent_lists(barrier):
                self.agree_barrier(task, plan, told, many, thing)
            for thing in lists_with_truths(barrier):
                self.assertIs(self.agree_barrier(task, plan, told, many, thing), False)
            self.assertIs(self.agree_barrier(task, plan, told, many, barrier[::-1]), len(barrier) == 1)
            self.assertIs(self.agree_barrier(task, plan, told, many, []), False)

    def test_barriers_otherwise(self):
        rng = random.Random(166)
        seen = {True: 0, False: 0}
        for task, plan in self.plans(167, 60):
            told = Hands(task, plan)
            distance = self.distance(task, plan)
            if distance is None:
                # There is a barrier of each number.
                barrier = [(situation, 0) for situation in told.reached((self.word,))]
                distance = 3
                for many in [1, 2] + GREAT:
                    self.assertIs(self.agree_barrier(task, plan, told, many, barrier), True)
            else:
                barrier = self.barrier(task, plan)
            everything = told.situations()
            for _ in range(8):
                others = [(rng.choice(everything), rng.randint(-1, distance)) for _ in range(5)]
                others += [(situation, height + rng.choice([-1, 1])) for situation, height in barrier]
                bent = samples.exchanged(rng, barrier, others)
                for thing in [bent, sorted(bent)]:
                    seen[self.agree_barrier(task, plan, told, distance, thing)] += 1
            for thing in self.looser(rng, told, barrier, distance):
                seen[self.agree_barrier(task, plan, told, distance, thing)] += 1
        self.assertGreater(min(seen.values()), 40, seen)

    def looser(self, rng, told, barrier, many):
        """Barriers with more situations, or with other heights, some of which are right."""
        heights = dict(barrier)
        left = [situation for situation in told.situations() if situation not in heights]
        if left:
            yield sorted(barrier + [(rng.choice(left), many - 1)])
        lower = [(situation, max(0, height - 1)) for situation, height in barrier]
        yield lower
        if left:
            yield sorted(barrier + [(rng.choice(left), rng.randrange(many))])

    def test_what_is_no_situation(self):
        rng = random.Random(169)
        for k, (task, plan) in enumerate(self.plans(170, 120)):
            told = Hands(task, plan)
            many = self.distance(task, plan) or 3
            barrier = self.barrier(task, plan) or [(situation, 0) for situation in told.reached((self.word,))]
            self.assertIs(self.agree_barrier(task, plan, told, many, barrier), True)
            false = told.false_situations()
            for situation in false if k < 20 else rng.sample(false, min(len(false), 30)):
                thing = sorted(barrier + [(situation, many - 1)])
                self.assertIs(self.is_barrier(task, plan, many, thing), False, (task, plan, situation))

    def test_contents_without_a_home_are_in_no_situation(self):
        # Rows that lead round, and a content without a row.
        task = ((samples.free(5),), (A, B), (either_order(A, B), either_order(B, A)))
        plan = ((((2,), (3,)), ((3,), (2,))), ((A, B), (B, A)))
        barrier = self.barrier(task, plan)
        for more in [[(2,), (3,)], [(2,)], [(4,)]]:
            for index in [-1, 0, 1]:
                thing = sorted(barrier + [((content, index, -1), 0) for content in more])
                self.assertIs(self.agree_barrier(task, plan, Hands(task, plan), 1, thing), False)

    def test_values_of_any_kind(self):
        task, plan = LINE
        told = Hands(task, plan)
        rest, deeds = self.story(task, plan)
        barrier = self.barrier(task, plan)
        for thing in samples.odd_values():
            for given in [thing, (rest, thing), (thing, deeds), (rest, [thing]), (rest, deeds + [thing]),
                          (rest, [thing] + deeds),
                          (rest, [(thing,)]), (rest, [(self.word, thing, 0)]), (rest, [(self.word, 0, thing)])]:
                self.agree_story(task, plan, told, given)
            for given in [thing, [thing], [(thing, 0)], barrier + [thing], [(barrier[0][0], thing)] + barrier[1:],
                          [((thing, -1, -1), 0)], [((A, thing, -1), 0)] + barrier, barrier + [((C, -1, thing), 0)]]:
                for many in [1, 2, 10 ** 30]:
                    self.agree_barrier(task, plan, told, many, given)

    def test_great_numbers(self):
        task, plan = ALONE
        barrier = [((B, -1, -1), 0)]
        told = Hands(task, plan)
        if self.word == "wrong":
            barrier = [((A, -1, -1), 0), ((B, -1, -1), 0), ((C, -1, -1), 0)]
        for many in [1, 2] + GREAT:
            self.assertIs(self.agree_barrier(task, plan, told, many, barrier), True)
            self.assertIs(self.agree_barrier(task, plan, told, many, [(barrier[0][0], many)] + barrier[1:]), False)
            self.assertIs(self.agree_barrier(task, plan, told, many, []), False)
            # A rest, with which runs begin, has the height 0.
            highest = [(situation, 0 if situation[0] == B else many - 1) for situation, _ in barrier]
            self.assertIs(self.agree_barrier(task, plan, told, many, highest), many < 3 or self.word == "late")

    def ask_all(self, task, plan, things):
        yield lambda: self.distance(task, plan)
        yield lambda: self.story(task, plan)
        yield lambda: self.barrier(task, plan)
        for thing in things:
            yield lambda: self.numbers(task, plan, thing)
            yield lambda: self.is_barrier(task, plan, 1, thing)

    def test_errors_in_their_order(self):
        rng = random.Random(168)
        seen = {NotKept: set(), NoReturn: set(), None: set()}
        errors = [NotKept, None] + [NoReturn] * (self.word == "late")
        while min(len(seen[error]) for error in errors) < 3:
            if rng.random() < 0.4:
                task, plan = samples.random_planned(rng, 12, 5)
            else:
                task, plan = samples.random_kept(rng, 12, 5, False)
            if len(task[2]) > 12:
                continue
            broken = [k for k in range(len(task[2])) if not reference.keeps(task, plan, k)]
            index = hands.first_without_return(task)
            error = NotKept if broken else NoReturn if index is not None and self.word == "late" else None
            for ask in self.ask_all(task, plan, [None, (A, []), []]):
                if error is None:
                    ask()
                    continue
                with self.assertRaises(error) as caught:
                    ask()
                self.assertEqual(vars(caught.exception), {"index": broken[0] if broken else index})
            seen[error].add(broken[0] if broken else index if error else repr(task))

    def test_answers_may_be_changed(self):
        task, plan = LINE
        for ask in [self.story, self.barrier]:
            before = repr(ask(task, plan))
            told = ask(task, plan)
            (told[1] if isinstance(told, tuple) else told).clear()
            self.assertEqual(repr(ask(task, plan)), before)
        story, barrier = self.story(task, plan), self.barrier(task, plan)
        before = repr((task, plan, story, barrier))
        for _ in range(2):
            self.assertEqual(self.numbers(task, plan, story), self.distance(task, plan))
            self.assertIs(self.is_barrier(task, plan, self.distance(task, plan), barrier), True)
        self.assertEqual(repr((task, plan, story, barrier)), before)
