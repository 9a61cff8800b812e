"""[38] with [2] to [4] and [10]: trees of cases."""

import random
import unittest

from onorback.benches import either_order, rise_place, slide_place
from onorback.cases import case_tree, depth_of_tree, is_tree, size_of_tree
from onorback.errors import TooMany
from onorback.finding import find_model
from onorback.reader import read_task
from tests import dealings, samples
from tests.thresholds import THRESHOLDS

A, B, C = (0,), (1,), (2,)
LINE = (slide_place(3),)
# Neither way can be served: each order needs the only content between for itself.
TASK = (LINE, (A, C), ((A, C, (A,)), (C, A, (C,))))
TREE = ("split", B, (("order", 1), ("order", 0), ("order", 0)))


def parts_of(tree):
    yield tree
    if tree[0] == "split":
        for part in tree[2]:
            yield from parts_of(part)


def swapped(rng, tree):
    """The tree with the trees of one of its splits in another order."""
    if tree[0] != "split":
        return tree
    trees = list(tree[2])
    if rng.random() < 0.5:
        k = rng.randrange(len(trees))
        trees[k] = swapped(rng, trees[k])
    else:
        one, other = rng.randrange(len(trees)), rng.randrange(len(trees))
        trees[one], trees[other] = trees[other], trees[one]
    return ("split", tree[1], tuple(trees))


def with_leaf(rng, tree, leaf):
    """The tree with another one in the place of one of its parts."""
    if tree[0] != "split" or rng.random() < 0.1:
        return leaf
    k = rng.randrange(len(tree[2]))
    return tree[:2] + (tree[2][:k] + (with_leaf(rng, tree[2][k], leaf),) + tree[2][k + 1:],)


class CasesTest(unittest.TestCase):
    def agree(self, task, thing):
        told = is_tree(task, thing)
        self.assertIs(told, dealings.is_tree(task, thing), (task, repr(thing)[:500]))
        return told

    def some_trees(self, rng, many, most):
        """Tasks without a model, with their trees, of which the parts are at most so many; few trees are leaves."""
        found = []
        while len(found) < many:
            task = samples.knotty_task(rng)
            try:
                tree = case_tree(task)
            except TooMany:
                continue
            if tree is not None and size_of_tree(tree) <= most and (tree[0] == "split" or rng.random() < 0.1):
                found.append((task, tree))
        return found

    def test_small_ones(self):
        self.assertEqual(case_tree(TASK), TREE)
        self.assertIs(is_tree(TASK, TREE), True)
        self.assertEqual(case_tree((LINE, (A, B, C), (either_order(A, C),))), ("order", 0))
        self.assertIsNone(case_tree((LINE, (A, C), (either_order(A, C),))))
        self.assertIsNone(case_tree((LINE, (A, C), ())))

    def test_what_is_no_tree(self):
        for thing in [("order", 0), ("order", 1), ("lost", B), ("lost", A), ("split", B, TREE[2][:2]),
                      ("split", B, TREE[2] + (("order", 0),)), ("split", B, ()), ("split", B, (TREE[2][1],) + TREE[2][1:]),
                      ("split", B, (("order", 0), ("order", 1), ("order", 0))), ("split", A, TREE[2]), ("split", B),
                      ("split", B, list(TREE[2])), ["split", B, TREE[2]], ("split", [1], TREE[2]), TREE + (0,),
                      ("split", (True,), TREE[2]), ("split", B, (("order", True), ("order", 0), ("order", 0))),
                      ("split", B, (("order", 1), ("order", False), ("order", 0))), ("order",), ("lost",), (), ("split",),
                      ("split", B, (("order", 1), ("order", 0), ("order", 2))), ("split", (3,), TREE[2]),
                      ("split", B, (("order", 1), ("order", 0), ("order", -1))), ("split", B, (TREE, TREE, TREE)),
                      ("split", B, (("lost", B), ("order", 0), ("order", 0))), ("Split", B, TREE[2]), (0, 0), ("lost", B, ())]:
            self.assertIs(self.agree(TASK, thing), False, thing)
        self.assertIs(self.agree(TASK, ("split", B, (("order", 1), ("order", 0), ("order", 1)))), True)

    def test_lost_contents(self):
        # (0,) can be come to from (1,) only by steps downwards, of which there are none.
        task = ((rise_place(3),), (A,), ())
        self.assertIs(self.agree(task, ("split", B, (("lost", B), ("lost", B)))), False)
        bench = ((3, ((0, 1), (1, 0), (1, 2), (2, 1))), (2, ((0, 1),)))
        start, goal = (0, 0), (2, 1)
        task = (bench, (start, goal), ((start, goal, (start,)), (goal, start, (goal,))))
        tree = case_tree(task)
        self.assertIs(self.agree(task, tree), True)
        lost = ("split", (1, 1), (("lost", (1, 1)), ("order", 1), ("order", 1)))
        self.assertIs(self.agree(task, lost), True)
        self.assertIs(self.agree(task, ("split", (1, 1), (("lost", (0, 1)), ("order", 1), ("order", 1)))), False)
        self.assertIs(self.agree(task, ("split", (1, 0), (("lost", (1, 0)), ("order", 1), ("order", 1)))), False)
        self.assertIs(self.agree(task, ("split", (1, 0), (("order", 1), ("order", 1), ("lost", (1, 0))))), False)

    def test_a_task_with_a_model_has_no_tree(self):
        rng = random.Random(71)
        for k in range(60):
            task = samples.random_task(rng, None, 6) if k < 20 else samples.knotty_task(rng, 6)
            tree = case_tree(task)
            self.assertIs(tree is None, dealings.has_model(task))
            self.assertIs(tree is None, find_model(task) is not None)
            if tree is None:
                for thing in [("order", k) for k in range(len(task[2]))] + [("lost", c) for c in samples.contents(task[0])]:
                    self.assertIs(is_tree(task, thing), False)

    def test_ordinary_trees(self):
        rng = random.Random(72)
        deepest = 0
        for task, tree in self.some_trees(rng, 40, 60):
            self.assertIs(self.agree(task, tree), True)
            self.assertEqual(case_tree(task), tree)
            deepest = max(deepest, depth_of_tree(tree))
            words = {part[0] for part in parts_of(tree)}
            self.assertLessEqual(words, {"split", "lost", "order"})
        self.assertGreater(deepest, 3)

    def test_large_trees(self):
        rng = random.Random(73)
        many = 0
        words = set()
        while many < 8:
            task = samples.crowded_task(rng)
            try:
                tree = case_tree(task)
            except TooMany:
                with self.assertRaises(TooMany):
                    find_model(task)
                continue
            if tree is not None and size_of_tree(tree) > 100:
                many += 1
                words |= {part[0] for part in parts_of(tree)}
                self.assertIs(is_tree(task, tree), True)
                self.assertIs(is_tree(task, with_leaf(rng, tree, ("order", 99))), False)
        self.assertEqual(words, {"split", "lost", "order"})

    def test_more_than_a_thousand_cases(self):
        for many, found, text in THRESHOLDS:
            task = read_task(text)
            if many > 1000:
                with self.assertRaises(TooMany) as caught:
                    case_tree(task)
                self.assertEqual(vars(caught.exception), {"most": 1000})
            elif found:
                self.assertIsNone(case_tree(task))
            else:
                tree = case_tree(task)
                self.assertEqual(size_of_tree(tree), many)
                self.assertIs(is_tree(task, tree), True)

    def test_bent_trees(self):
        rng = random.Random(74)
        for task, tree in self.some_trees(rng, 6, 12):
            for bent in samples.bends(tree):
                self.agree(task, bent)
            for bent in samples.as_truths(tree):
                self.assertIs(self.agree(task, bent), False)

    def test_trees_with_other_parts(self):
        rng = random.Random(75)
        right = {True: 0, False: 0}
        for task, tree in self.some_trees(rng, 25, 40):
            everywhere = samples.contents(task[0])
            leaves = [("lost", rng.choice(everywhere)), ("order", rng.randrange(-1, len(task[2]) + 1))]
            leaves.append(("split", rng.choice(everywhere), tuple([leaves[0]] * (len(task[1]) + 1))))
            leaves.append(("split", rng.choice(everywhere), tuple([leaves[1]] * (len(task[1]) + 1))))
            leaves.append(("split", rng.choice(everywhere), tuple([leaves[1]] * len(task[1]))))
            # What is dealt already cannot be dealt again.
            leaves += [tree] + [("split", part[1], part[2]) for part in parts_of(tree) if part[0] == "split"]
            for leaf in leaves:
                right[self.agree(task, with_leaf(rng, tree, leaf))] += 1
            for _ in range(10):
                right[self.agree(task, swapped(rng, tree))] += 1
        self.assertTrue(min(right.values()) > 40, right)

    def test_a_leaf_may_be_split_as_well(self):
        leaf = ("split", B, (("order", 1), ("order", 0), ("order", 0)))
        bench = (slide_place(4),)
        task = (bench, (A, C), TASK[2])
        self.assertIs(self.agree(task, ("split", (3,), (leaf, leaf, leaf))), True)
        self.assertIs(self.agree(task, ("split", (3,), (leaf, ("split", (3,), (leaf,) * 3), leaf))), False)
        self.assertIs(self.agree(task, ("split", (3,), (("lost", (3,)), leaf, leaf))), True)

    def test_values_of_any_kind(self):
        for thing in samples.odd_values():
            self.agree(TASK, thing)
            self.agree(TASK, ("split", B, thing))
            self.agree(TASK, ("split", thing, TREE[2]))
            self.agree(TASK, ("split", B, (thing,) + TREE[2][1:]))
            self.agree(TASK, ("order", thing))
            self.agree(TASK, ("lost", thing))
            self.agree(TASK, (thing, B, TREE[2]))

    def test_deep_values(self):
        tree = ("order", 0)
        for _ in range(58):
            tree = ("split", B, (tree, ("order", 0), ("order", 0)))
        self.assertIs(is_tree(TASK, tree), False)
        self.assertEqual((size_of_tree(tree), depth_of_tree(tree)), (1 + 58 * 3, 58))

    def test_sizes_and_depths(self):
        self.assertEqual((size_of_tree(("order", 0)), depth_of_tree(("order", 0))), (1, 0))
        self.assertEqual((size_of_tree(("lost", A)), depth_of_tree(("lost", A))), (1, 0))
        self.assertEqual((size_of_tree(TREE), depth_of_tree(TREE)), (4, 1))
        deeper = ("split", C, (("lost", C), TREE, ("split", B, (TREE, ("order", 0), TREE)), ("order", 1)))
        self.assertEqual((size_of_tree(deeper), depth_of_tree(deeper)), (1 + 1 + 4 + 10 + 1, 3))

        def depth(tree):
            return 0 if tree[0] != "split" else 1 + max(depth(part) for part in tree[2])
        rng = random.Random(76)
        for _, tree in self.some_trees(rng, 20, 400):
            self.assertEqual(size_of_tree(tree), len(list(parts_of(tree))))
            self.assertEqual(depth_of_tree(tree), depth(tree))


if __name__ == "__main__":
    unittest.main()
