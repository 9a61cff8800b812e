"""[43] with [3], [4] and [9], and with slides and dials of [17]: drawings, their sums, drawings that bar."""

import random
import unittest
from itertools import combinations

from onorback.benches import dial_place, either_order, free_place, rise_place, slide_place
from onorback.drawings import drawing_fault, drawing_of, drawing_sum, is_drawing
from onorback.errors import NoDrawing
from onorback.sums import pairs_of
from tests import reference, samples

SLIDES = [slide_place(many) for many in range(2, 7)]
DIALS = [dial_place(many) for many in range(3, 7)]
RING = (dial_place(4),)
ROUND = [((0,), (1,), (2,), (3,)), ((0,), (3,), (2,), (1,))]


def turns(face):
    return [face[k:] + face[:k] for k in range(len(face))]


def hangs_together(bench):
    for content in samples.contents(bench):
        reached = {content}
        for _ in samples.contents(bench):
            reached |= {other for one in reached for other in samples.next_ones(bench, one)}
        if len(reached) < len(samples.contents(bench)):
            return False
    return True


def may_be_drawn(bench):
    steps = reference.steps(bench)
    return steps != [] and all((other, one) in steps for one, other in steps) and hangs_together(bench)


def is_told_drawing(bench, thing):
    """Whether thing is a drawing, word by word as the document tells it."""
    if not may_be_drawn(bench) or not isinstance(thing, list):
        return False
    steps = {repr(step) for step in reference.steps(bench)}
    told = []
    following = {}
    for face in thing:
        if not isinstance(face, tuple) or face == ():
            return False
        for one, other, third in zip(face, face[1:] + face[:1], face[2:] + face[:2] if len(face) > 1 else face):
            told.append(repr((one, other)))
            following[repr(one), repr(other)] = repr(third)
    if sorted(told) != sorted(steps) or not reference.same(thing, sorted(set(thing))):
        return False
    if any(not reference.same(face, min(turns(face))) for face in thing):
        return False
    for content in samples.contents(bench):
        near = {repr(other) for other in samples.next_ones(bench, content)}
        for one in near:
            met = set()
            for _ in near:
                met.add(one)
                one = following[one, repr(content)]
            if met != near:
                return False
    return True


def traced(bench, following):
    """The faces that come of the contents that are next to each other: of a dict from steps to contents."""
    left = reference.steps(bench)
    faces = []
    while left:
        face = []
        step = left[0]
        while step in left:
            left.remove(step)
            face.append(step[0])
            step = (step[1], following[step])
        faces.append(min(turns(tuple(face))))
    return sorted(faces)


def drawn(rng, bench, often):
    """Faces in which the next ones round a content are often, or seldom, one ring."""
    following = {}
    for content in samples.contents(bench):
        near = samples.next_ones(bench, content)
        rng.shuffle(near)
        other = near[1:] + near[:1]
        if rng.random() > often:
            rng.shuffle(other)
        following.update({(one, content): two for one, two in zip(near, other)})
    return traced(bench, following)


def changed(rng, bench, faces):
    """Lists of faces that come of a drawing by one change."""
    k, m = rng.randrange(len(faces)), rng.randrange(len(faces))
    face = faces[k]
    at, to = sorted([rng.randrange(len(face)), rng.randrange(len(face))])
    other = rng.choice(samples.contents(bench))
    yield faces[:k] + faces[k + 1:]
    yield faces + [face]
    yield sorted(faces + [face])
    yield faces[::-1]
    yield faces[k:] + faces[:k]
    yield [rng.choice(turns(one)) if one == face else one for one in faces]
    yield sorted([min(turns(one[::-1])) if one == face else one for one in faces])
    yield [min(turns(face[:at] + (other,) + face[at + 1:])) if one == face else one for one in faces]
    yield sorted(set(faces) - {face} | {min(turns(face[at:to] or face)), min(turns(face[:at] + face[to:] or face))})
    yield sorted(set(faces) - {face, faces[m]} | {min(turns(face + faces[m]))})
    yield tuple(faces)
    yield [list(one) if one == face else one for one in faces]
    yield sorted(faces + [()])
    yield [(one,) for one in faces]


def pairs_task(bench, rests, pairs):
    orders = tuple(sorted(either_order(rests[k], rests[m]) for k, m in pairs))
    return (bench, tuple(rests), orders)


def told_fault(task, faces):
    total = len(samples.contents(task[0])) - len(reference.steps(task[0])) // 2 + len(faces)
    pairs = {tuple(sorted(order[:2])) for order in task[2] if set(order[2]) <= set(order[:2])}
    rests = sorted({rest for pair in pairs for rest in pair})
    if total not in (0, 2) or len(rests) < 3:
        return None
    most = 3 * len(rests) - 6 if total == 2 else 3 * len(rests)
    if not any({(a, b), (a, c), (b, c)} <= pairs for a, b, c in combinations(rests, 3)):
        most = 2 * len(rests) - 4 if total == 2 else 2 * len(rests)
    return (len(pairs), most) if len(pairs) > most else None


class DrawingsTest(unittest.TestCase):
    def agree(self, bench, thing):
        told = is_drawing(bench, thing)
        self.assertIs(told, is_told_drawing(bench, thing), (bench, repr(thing)[:400]))
        return told

    def test_small_ones(self):
        self.assertIs(self.agree(RING, ROUND), True)
        self.assertEqual(drawing_sum(RING, ROUND), 2)
        self.assertIs(self.agree((slide_place(2),), [((0,), (1,))]), True)
        self.assertEqual(drawing_sum((slide_place(2),), [((0,), (1,))]), 2)
        self.assertIs(self.agree((slide_place(3),), [((0,), (1,), (2,), (1,))]), True)

    def test_what_is_no_drawing(self):
        for thing in [tuple(ROUND), ROUND[::-1], ROUND[:1], ROUND + ROUND, [ROUND[0], ROUND[0]], [ROUND[0], ((3,), (2,), (1,), (0,))],
                      [ROUND[0], list(ROUND[1])], [()] + ROUND, [((0,), (1,), (2,), (3,), (2,), (1,))], [((0,), (1,)), ((0,), (3,))],
                      [((0,), (1,)), ((0,), (3,)), ((1,), (2,)), ((2,), (3,))], [((0,),)], [((False,), (1,), (2,), (3,)), ROUND[1]],
                      [ROUND[0], ((0,), (3,), (2,), (True,))], [ROUND[0], ((0,), (3,), (2,), 1)], [ROUND[0] + ROUND[1]], []]:
            self.assertIs(self.agree(RING, thing), False, thing)

    def test_the_ring_round_a_content_falls_into_two(self):
        self.assertIs(self.agree((slide_place(3),), [((0,), (1,)), ((1,), (2,))]), False)
        # Two rings that have only (0, 0) in common: each step stands just once.
        bench = (free_place(3), slide_place(2))
        rng = random.Random(101)
        seen = {True: 0, False: 0}
        for _ in range(60):
            seen[self.agree(bench, drawn(rng, bench, 0.8))] += 1
        self.assertGreater(min(seen.values()), 10)

    def test_benches_without_a_drawing(self):
        self.assertIs(is_drawing((rise_place(2),), [((0,), (1,))]), False)
        self.assertIs(is_drawing(((2, ()),), []), False)
        # It falls apart into two benches with a step.
        self.assertIs(is_drawing((slide_place(2), (2, ())), [((0, 0), (1, 0)), ((0, 1), (1, 1))]), False)
        self.assertIs(is_drawing(((4, ((0, 1), (1, 0), (2, 3), (3, 2))),), [((0,), (1,)), ((2,), (3,))]), False)
        self.assertIs(is_drawing(((3, ((0, 1), (1, 2), (2, 0))),), [((0,), (1,), (2,))]), False)

    def test_told_drawings(self):
        for bench in [(one,) for one in SLIDES + DIALS] + [(one, two) for one in SLIDES + DIALS for two in SLIDES + DIALS]:
            faces = drawing_of(bench)
            self.assertIs(self.agree(bench, faces), True)
            on_a_ring_pipe = len(bench) == 2 and all(place in DIALS for place in bench)
            self.assertEqual(drawing_sum(bench, faces), 0 if on_a_ring_pipe else 2)
            self.assertEqual(drawing_of(bench), faces)
        self.assertEqual(drawing_of((free_place(3),)), drawing_of((dial_place(3),)))
        self.assertEqual(drawing_of((free_place(2), free_place(3))), drawing_of((slide_place(2), dial_place(3))))

    def test_benches_that_are_not_told_of(self):
        for bench in [(slide_place(2),) * 3, (free_place(4),), (rise_place(2),), (rise_place(3), slide_place(2)),
                      (slide_place(2), (2, ())), ((4, ((0, 1), (1, 0), (2, 3), (3, 2))),), (slide_place(3), free_place(5)),
                      (dial_place(3),) * 4, ((2, ((0, 1),)),), ((3, ((0, 1), (0, 2), (1, 0), (1, 2), (2, 0))),)]:
            with self.assertRaises(NoDrawing) as caught:
                drawing_of(bench)
            self.assertEqual(vars(caught.exception), {})

    def test_drawings_that_are_changed(self):
        rng = random.Random(102)
        right = {True: 0, False: 0}
        for _ in range(60):
            bench = tuple(rng.choice(SLIDES[:3] + DIALS[:2]) for _ in range(rng.choice([1, 2, 2])))
            faces = drawing_of(bench)
            for thing in changed(rng, bench, faces):
                right[self.agree(bench, thing)] += 1
        self.assertTrue(right[False] > 400 and right[True] > 20, right)

    def test_other_drawings(self):
        rng = random.Random(103)
        right = {True: 0, False: 0}
        sums = set()
        for _ in range(80):
            bench = rng.choice([(slide_place(2),) * 3, (free_place(4),), (free_place(3), free_place(3)), (dial_place(4), slide_place(3)),
                                (free_place(5),), (slide_place(2), free_place(4))])
            faces = drawn(rng, bench, rng.choice([1, 0.8]))
            told = self.agree(bench, faces)
            right[told] += 1
            if told:
                total = len(samples.contents(bench)) - len(reference.steps(bench)) // 2 + len(faces)
                self.assertEqual(drawing_sum(bench, faces), total)
                sums.add(total)
        self.assertTrue(min(right.values()) > 10 and min(sums) < 0 and {0, 2} & sums, (right, sums))

    def test_bent_drawings(self):
        for bench in [RING, (slide_place(2), slide_place(2)), (slide_place(2), dial_place(3))]:
            faces = drawing_of(bench)
            for k, face in enumerate(faces):
                for bent in samples.bends(face):
                    self.assertIs(self.agree(bench, faces[:k] + [bent] + faces[k + 1:]), bent == face and repr(bent) == repr(face))
                for bent in samples.as_truths(face):
                    self.assertIs(is_drawing(bench, faces[:k] + [bent] + faces[k + 1:]), False)

    def test_values_of_any_kind(self):
        for thing in samples.odd_values() + [[thing] for thing in samples.odd_values()]:
            self.agree(RING, thing)
            self.assertIs(is_drawing(RING, [ROUND[0], thing]), False)
            self.assertIs(is_drawing(RING, [ROUND[0], (ROUND[1][0], thing)]), False)
        self.assertIs(is_drawing(RING, [((0,), (1,)) * 4000]), False)

    def test_faults_on_a_sphere(self):
        bench, faces = (slide_place(3), slide_place(3)), drawing_of((slide_place(3), slide_place(3)))
        rests = samples.contents(bench)
        five = list(combinations(range(5), 2))
        self.assertEqual(drawing_fault(pairs_task(bench, rests[:5], five), faces), (10, 9))
        self.assertIsNone(drawing_fault(pairs_task(bench, rests[:5], five[1:]), faces))
        three = [(k, m) for k in range(3) for m in range(3, 6)]
        self.assertEqual(drawing_fault(pairs_task(bench, rests[:6], three), faces), (9, 8))
        self.assertIsNone(drawing_fault(pairs_task(bench, rests[:6], three[1:]), faces))
        # With three rests that have all three pairs there may be more.
        self.assertIsNone(drawing_fault(pairs_task(bench, rests[:6], three + [(0, 1)]), faces))
        self.assertEqual(drawing_fault(pairs_task(bench, rests[:6], [(k, m) for k, m in combinations(range(6), 2) if k < 3]), faces), None)
        self.assertEqual(drawing_fault(pairs_task(bench, rests[:6], combinations(range(6), 2)), faces), (15, 12))
        self.assertIsNone(drawing_fault(pairs_task(bench, rests[:4], combinations(range(4), 2)), faces))

    def test_fewer_than_three_rests_in_pairs(self):
        bench = (slide_place(3), slide_place(3))
        rests = samples.contents(bench)
        for pairs in [[], [(0, 1)], [(0, 1), (1, 0)]]:
            self.assertIsNone(drawing_fault(pairs_task(bench, rests[:4], pairs), drawing_of(bench)))
        # Other rests, and orders that are not narrow, do not count.
        task = pairs_task(bench, rests[:5], list(combinations(range(5), 2)))
        wide = tuple((start, goal, rests[4:5]) if start == rests[0] and goal == rests[1] else (start, goal, ends)
                     for start, goal, ends in task[2])
        self.assertIsNone(drawing_fault((bench, task[1], wide), drawing_of(bench)))

    def test_faults_on_a_ring_pipe(self):
        bench, faces = (dial_place(4), dial_place(4)), drawing_of((dial_place(4), dial_place(4)))
        rests = samples.contents(bench)
        eight = list(combinations(range(8), 2))
        self.assertEqual(drawing_fault(pairs_task(bench, rests[:8], eight[:25]), faces), (25, 24))
        self.assertIsNone(drawing_fault(pairs_task(bench, rests[:8], eight[:24]), faces))
        self.assertIsNone(drawing_fault(pairs_task(bench, rests[:7], combinations(range(7), 2)), faces))
        nine = [(k, m) for k in range(4) for m in range(4, 9)]
        self.assertEqual(drawing_fault(pairs_task(bench, rests[:9], nine), faces), (20, 18))
        self.assertEqual(drawing_fault(pairs_task(bench, rests[:9], nine[1:]), faces), (19, 18))
        self.assertIsNone(drawing_fault(pairs_task(bench, rests[:9], nine[2:]), faces))

    def test_drawings_elsewhere_bar_nothing(self):
        rng = random.Random(104)
        bench = (free_place(3), free_place(3))
        task = pairs_task(bench, samples.contents(bench), list(combinations(range(9), 2)))
        seen = set()
        for _ in range(40):
            faces = drawn(rng, bench, 1)
            total = drawing_sum(bench, faces)
            seen.add(total)
            self.assertEqual(drawing_fault(task, faces), (36, 27) if total == 0 else None)
        self.assertTrue(min(seen) < 0)

    def test_ordinary_faults(self):
        rng = random.Random(105)
        seen = {}
        for _ in range(400):
            bench = tuple(rng.choice(SLIDES + DIALS) for _ in range(2))
            everywhere = samples.contents(bench)
            rests = sorted(rng.sample(everywhere, min(rng.randint(2, 10), len(everywhere))))
            pairs = list(combinations(range(len(rests)), 2))
            if rng.random() < 0.4:
                pairs = [(k, m) for k, m in pairs if k % 2 != m % 2]
            pairs = rng.sample(pairs, rng.randint(max(0, len(pairs) - 4), len(pairs)))
            task = pairs_task(bench, rests, pairs)
            fault = drawing_fault(task, drawing_of(bench))
            self.assertEqual(fault, told_fault(task, drawing_of(bench)))
            seen[fault is None] = seen.get(fault is None, 0) + 1
            self.assertEqual(len(pairs_of(task)), len(pairs))
        self.assertGreater(min(seen.values()), 30)

    def test_answers_may_be_changed(self):
        drawing_of(RING).clear()
        self.assertEqual(drawing_of(RING), ROUND)
        faces = [list(ROUND)[0], list(ROUND)[1]]
        is_drawing(RING, faces)
        drawing_fault(pairs_task(RING, samples.contents(RING), [(0, 1)]), faces)
        self.assertEqual(faces, ROUND)


if __name__ == "__main__":
    unittest.main()
