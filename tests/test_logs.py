"""[51] with [12], [3] and [4]: tasks with a log, layers and what they bear, lots of layers and back."""

import random
import unittest
from itertools import combinations, product

from onorback.benches import free_place, is_two_way, slide_place
from onorback.forms import is_lots, is_model, is_task
from onorback.logs import bears_couples, cover_layers, layers_of_lots, log_task, lots_of_layers
from onorback.models import unserved_orders
from tests import reference, samples
from tests.samples import dial, free, slide

A, B, C, D, E = (0,), (1,), (2,), (3,), (4,)
LINE = (slide_place(3),)
FIVE = (slide_place(5),)
# Two lines that do not come to each other, a ring with a lone content, and four lone contents.
APART = ((2, ((0, 1), (1, 0))), (2, ()))
LONE = ((4, ((0, 1), (0, 2), (1, 0), (1, 2), (2, 0), (2, 1))),)
STILL = ((2, ()), (2, ()))
BENCHES = [(slide(2),), LINE, (free(3),), (slide(4),), FIVE, (slide(6),), (dial(5),), (free(6),), samples.BITS,
           (slide(3), slide(2)), (slide(3), slide(3)), (free(2),) * 3, (dial(4), slide(2)), (free(3), slide(3)),
           APART, LONE, STILL, ((6, ((0, 1), (1, 0), (2, 3), (3, 2), (3, 4), (4, 3))),), (slide(3), (3, ()))]


def all_couples(bench):
    return list(combinations(samples.contents(bench), 2))


def some_couples(rng, bench, most):
    couples = all_couples(bench)
    return tuple(sorted(rng.sample(couples, min(len(couples), rng.randint(0, most)))))


def parts_told(bench, layers):
    """The list of the tuples (layer, centre, contents) of all parts."""
    contents = samples.contents(bench)
    parts = []
    for k, layer in enumerate(layers):
        left = {content: centre for content, centre in zip(contents, layer) if centre is not None}
        while left:
            content, centre = left.popitem()
            part, edge = {content}, [content]
            while edge:
                for other in samples.next_ones(bench, edge.pop()):
                    if left.get(other) == centre:
                        del left[other]
                        part.add(other)
                        edge.append(other)
            parts.append((k, centre, part))
    return parts


def all_come_to_centres(parts):
    """Whether from each part one comes, by parts of its centre in other layers, to one in which the centre lies."""
    home = [part for part in parts if part[1] in part[2]]
    for _ in parts:
        for part in parts:
            if part not in home and any(o[0] != part[0] and o[1] == part[1] and o[2] & part[2] for o in home):
                home.append(part)
    return len(home) == len(parts)


def is_borne(bench, parts, one, other):
    if other in samples.next_ones(bench, one):
        return True
    for k, centre, part in parts:
        if centre == other and one in part or centre == one and other in part:
            return True
    for (k, centre, part), (m, second, its_part) in product(parts, parts):
        if (centre, second) == (one, other):
            if k == m and any(set(samples.next_ones(bench, content)) & its_part for content in part):
                return True
            if k != m and part & its_part:
                return True
    return False


def bears_told(bench, couples, thing):
    """What bears_couples tells, by the words of the document."""
    if not isinstance(thing, tuple) or len(thing) > 5:
        return False
    known = {repr(content) for content in samples.contents(bench)} | {"None"}
    for layer in thing:
        if not isinstance(layer, tuple) or len(layer) != len(samples.contents(bench)):
            return False
        if any(repr(item) not in known for item in layer):
            return False
    parts = parts_told(bench, thing)
    return all_come_to_centres(parts) and all(is_borne(bench, parts, one, other) for one, other in couples)


def random_layers(rng, bench):
    """Layers that are grown from some centres, with items exchanged at times."""
    contents = samples.contents(bench)
    centres = rng.sample(contents, rng.randint(1, min(3, len(contents))))
    layers = []
    for _ in range(rng.choice([1, 1, 2, 2, 3, 4, 5])):
        layer = dict.fromkeys(contents)
        for centre in centres:
            if rng.random() < 0.8:
                layer[rng.choice([centre, centre, rng.choice(contents)])] = centre
        for _ in range(rng.randrange(2 * len(contents))):
            content = rng.choice(contents)
            near = [layer[other] for other in samples.next_ones(bench, content) if layer[other] is not None]
            if layer[content] is None and near:
                layer[content] = rng.choice(near)
        layers.append(list(layer.values()))
    for _ in range(rng.choice([0, 0, 0, 1, 2])):
        layer = rng.choice(layers)
        layer[rng.randrange(len(layer))] = rng.choice(contents + [None])
    return tuple(tuple(layer) for layer in layers)


class LogsTest(unittest.TestCase):
    def agree(self, bench, couples, thing):
        told = bears_couples(bench, couples, thing)
        self.assertIs(told, bears_told(bench, couples, thing), (bench, couples, repr(thing)[:500]))
        return told

    def test_the_benches_are_two_way(self):
        for bench in BENCHES:
            self.assertTrue(is_two_way(bench) and len(samples.contents(bench)) <= 9)

    def test_log_task(self):
        task = log_task(LINE, ((A, C),), 2)
        ends = ((0, 0), (2, 0))
        self.assertEqual(task, ((slide_place(3), free_place(2)), ((0, 0), (1, 0), (2, 0)),
                                (((0, 0), (2, 0), ends), ((2, 0), (0, 0), ends))))
        rng = random.Random(131)
        for bench, many in product(BENCHES, range(2, 7)):
            couples = some_couples(rng, bench, 6)
            told = log_task(bench, couples, many)
            pairs = sorted(list(couples) + [(other, one) for one, other in couples])
            orders = [(s + (0,), g + (0,), tuple(sorted([s + (0,), g + (0,)]))) for s, g in pairs]
            self.assertEqual(told, (bench + (free_place(many),), tuple(c + (0,) for c in samples.contents(bench)),
                                    tuple(orders)))
            self.assertTrue(is_task(told) and reference.is_task(told))

    def test_no_couples_and_no_layers(self):
        for bench in BENCHES:
            none = (None,) * len(samples.contents(bench))
            for layers in [(), (none,), (none,) * 5]:
                self.assertIs(self.agree(bench, (), layers), True)
            self.assertIs(self.agree(bench, (), (none,) * 6), False)
            for couple in all_couples(bench):
                beside = couple[1] in samples.next_ones(bench, couple[0])
                self.assertIs(self.agree(bench, (couple,), ()), beside)
                self.assertIs(self.agree(bench, (couple,), (none,)), beside)

    def test_each_way_to_bear_a_couple(self):
        self.assertIs(self.agree(LINE, ((A, C),), ((A, A, None),)), False)
        # One lies in a part of the other.
        self.assertIs(self.agree(LINE, ((A, C),), ((A, A, A),)), True)
        self.assertIs(self.agree(LINE, ((A, C),), ((C, C, C),)), True)
        # Parts beside each other in the same layer; in other layers they need a content in common.
        self.assertIs(self.agree(LINE, ((A, C),), ((A, A, C),)), True)
        self.assertIs(self.agree(LINE, ((A, C),), ((A, None, None), (None, None, C))), False)
        self.assertIs(self.agree(LINE, ((A, C),), ((A, A, None), (None, None, C))), False)
        self.assertIs(self.agree(LINE, ((A, C),), ((A, A, None), (None, C, C))), True)
        # A centre that does not lie in its part.
        self.assertIs(self.agree(LINE, ((A, C),), ((None, A, A),)), False)
        self.assertIs(self.agree(LINE, ((A, C),), ((None, A, A), (A, A, None))), True)
        self.assertIs(self.agree(LINE, ((A, C),), ((None, A, A), (A, None, None))), False)

    def test_centres_that_are_come_to_by_several_layers(self):
        none = (None,) * 5
        layers = ((A, A, None, None, None), (None, A, A, None, None), (None, None, A, A, None),
                  (None, None, None, A, A))
        self.assertIs(self.agree(FIVE, ((A, E),), layers), True)
        for order in [(3, 2, 1, 0), (1, 3, 0, 2), (2, 0, 3, 1)]:
            self.assertIs(self.agree(FIVE, ((A, E),), tuple(layers[k] for k in order)), True)
        for k in range(4):
            self.assertIs(self.agree(FIVE, ((A, E),), layers[:k] + layers[k + 1:]), False)
            self.assertIs(self.agree(FIVE, ((A, E),), layers[:k] + (none,) + layers[k + 1:]), False)
            self.assertIs(self.agree(FIVE, (), layers[:k] + layers[k + 1:]), k == 3)
        # Two parts of one centre in one layer, of which only one hangs together with the centre's own.
        self.assertIs(self.agree(FIVE, ((A, E),), ((A, None, None, None, A), (A, A, A, A, None))), False)
        self.assertIs(self.agree(FIVE, ((A, E),), ((A, None, None, A, A), (A, A, A, A, None))), True)
        self.assertIs(self.agree(FIVE, ((A, E),), ((A, None, None, A, A), (A, A, None, A, None))), False)

    def test_a_bench_that_falls_apart(self):
        one, other = (0, 0), (0, 1)
        for layers in product(product([None, one, other], repeat=4), repeat=1):
            self.assertIs(self.agree(APART, ((one, other),), layers), False)
        self.assertIs(self.agree(LONE, ((A, D),), ((A, A, A, A),)), False)
        self.assertIs(self.agree(LONE, ((A, B), (A, C)), ()), True)
        self.assertIs(self.agree(STILL, (((0, 0), (0, 1)),), (((0, 0), None, None, None),)), False)

    def test_all_layers_of_small_benches(self):
        seen = {True: 0, False: 0}
        for bench, couples in [(LINE, ((A, C),)), (LINE, ()), (LINE, ((A, B), (A, C))), ((slide(2),), ((A, B),))]:
            contents = samples.contents(bench)
            for many in [1, 2]:
                for layers in product(product(contents + [None], repeat=len(contents)), repeat=many):
                    seen[self.agree(bench, couples, layers)] += 1
        for layers in product(product([None] + samples.contents(samples.BITS), repeat=4), repeat=1):
            seen[self.agree(samples.BITS, (((0, 0), (1, 1)), ((0, 1), (1, 0))), layers)] += 1
        self.assertGreater(min(seen.values()), 500, seen)

    def test_ordinary_layers(self):
        rng = random.Random(132)
        seen = {}
        for _ in range(700):
            bench = rng.choice(BENCHES)
            layers = random_layers(rng, bench)
            borne = [couple for couple in all_couples(bench) if bears_told(bench, (couple,), layers)]
            for couples in [some_couples(rng, bench, 2), tuple(sorted(rng.sample(borne, min(len(borne), 4))))]:
                told = self.agree(bench, couples, layers)
                seen[(len(layers), told)] = seen.get((len(layers), told), 0) + 1
                self.check_lots(bench, couples, layers, told)
        self.assertTrue(all(seen.get((many, told), 0) > 15 for many in range(1, 6) for told in [True, False]), seen)

    def check_lots(self, bench, couples, layers, told):
        """Lots of layers are a model just where the layers bear the couples, and lead back to the layers."""
        many = len(layers) + 1
        task = log_task(bench, couples, many)
        lots = lots_of_layers(bench, layers)
        expected = []
        for rest in samples.contents(bench):
            lot = [rest + (0,)]
            for at, content in enumerate(samples.contents(bench)):
                lot += [content + (k + 1,) for k, layer in enumerate(layers) if layer[at] == rest]
            expected.append(tuple(sorted(lot)))
        self.assertEqual(lots, tuple(expected))
        self.assertIs(is_model(task, lots), told)
        self.assertIs(reference.is_model(task, lots), told)
        if told:
            self.assertEqual(unserved_orders(task, lots), [])
        if is_lots(task, lots):
            self.assertEqual(layers_of_lots(bench, many, lots), layers)

    def test_layers_of_lots(self):
        lots = (((0, 0), (0, 1), (1, 1)), ((1, 0),), ((2, 0), (1, 2), (2, 2)))
        self.assertEqual(layers_of_lots(LINE, 3, lots), ((A, A, None), (None, C, C)))
        self.assertEqual(lots_of_layers(LINE, ((A, A, None), (None, C, C))),
                         (((0, 0), (0, 1), (1, 1)), ((1, 0),), ((1, 2), (2, 0), (2, 2))))
        rng = random.Random(133)
        for _ in range(60):
            bench, many = rng.choice(BENCHES), rng.randint(2, 6)
            task = log_task(bench, (), many)
            lots = samples.random_lots(rng, task)
            layers = layers_of_lots(bench, many, lots)
            self.assertEqual((type(layers), len(layers)), (tuple, many - 1))
            self.assertIs(self.agree(bench, (), layers), True)
            self.assertEqual(lots_of_layers(bench, layers), lots)

    def test_one_thing_otherwise(self):
        layers = ((A, A, None), (None, C, C))
        couples = ((A, C),)
        self.assertIs(self.agree(LINE, couples, layers), True)
        for k, at, item in product(range(2), range(3), [None, A, B, C, D, (0, 0), (), 0, True, (False,), (True,), [0]]):
            bent = layers[k][:at] + (item,) + layers[k][at + 1:]
            self.agree(LINE, couples, layers[:k] + (bent,) + layers[k + 1:])
        for thing in [layers[:1], layers[1:], layers[::-1], layers + (layers[0],), layers + ((None,) * 3,), layers * 2,
                      layers + ((None,) * 3,) * 3, layers + ((None,) * 3,) * 4, layers * 3, (layers[0], layers[0]),
                      (layers[0] + (None,), layers[1]), (layers[0], layers[1][:2]), list(layers),
                      ([A, A, None], layers[1]), (list(layers[0]), list(layers[1])), (), ((), ()), (layers,), layers[0],
                      (None, None), ((None, None, D), layers[0], layers[1]), (((0, 0), None, None),) + layers, None]:
            self.agree(LINE, couples, thing)
        self.assertIs(bears_couples(LINE, couples, layers + ((None,) * 3,) * 3), True)
        self.assertIs(bears_couples(LINE, couples, layers + ((None,) * 3,) * 4), False)
        self.assertIs(bears_couples(LINE, couples, list(layers)), False)

    def test_bent_layers(self):
        for bench, couples, layers in [(LINE, ((A, C),), ((A, A, None), (None, C, C))),
                                       ((slide(2),), ((A, B),), ((A, B),))]:
            self.assertIs(self.agree(bench, couples, layers), True)
            for bent in samples.bends(layers):
                self.agree(bench, couples, bent)
            for bent in samples.as_truths(layers):
                self.assertIs(self.agree(bench, couples, bent), False)

    def test_values_of_any_kind(self):
        for thing in samples.odd_values():
            for given in [thing, (thing,), ((thing, None, None),), ((None, None, None), thing),
                          ((None, (thing,), None),)]:
                self.agree(LINE, (), given)
                self.agree(LINE, ((A, C),), given)

    def test_covers(self):
        rng = random.Random(134)
        for bench in BENCHES:
            contents = samples.contents(bench)
            if not self.hangs_together(bench):
                continue
            for many in range(min(5, len(contents)) + 1):
                cover = tuple(sorted(rng.sample(contents, many)))
                layers = cover_layers(bench, cover)
                self.assertEqual(layers, tuple((centre,) * len(contents) for centre in cover))
                met = tuple(couple for couple in all_couples(bench) if set(couple) & set(cover))
                self.assertIs(self.agree(bench, met, layers), True)
                if cover:
                    self.assertIs(is_model(log_task(bench, met, many + 1), lots_of_layers(bench, layers)), True)
        self.assertEqual(cover_layers(LINE, ()), ())

    def hangs_together(self, bench):
        contents = samples.contents(bench)
        return len(parts_told(bench, ((contents[0],) * len(contents),))) == 1

    def test_answers_are_the_same_again(self):
        layers = ((A, A, None), (None, C, C))
        before = repr((LINE, layers))
        for _ in range(2):
            self.assertEqual(bears_couples(LINE, ((A, C),), layers), True)
            self.assertEqual(lots_of_layers(LINE, layers), lots_of_layers(LINE, layers))
            self.assertEqual(log_task(LINE, ((A, C),), 3), log_task(LINE, ((A, C),), 3))
            self.assertEqual(cover_layers(LINE, (A, C)), ((A, A, A), (C, C, C)))
        self.assertEqual(repr((LINE, layers)), before)


if __name__ == "__main__":
    unittest.main()
