"""[64] with [2], [3] and [4]: looks that tell rules, the least of them, the least rule of a model."""

import random
import unittest
from functools import lru_cache
from itertools import product
from math import prod

from onorback.benches import free_place, slide_place
from onorback.errors import TooMany
from onorback.forms import is_rule
from onorback.looks import action_by, least_looks, least_rule, looks_depth
from onorback.models import model_of, rule_of
from onorback.sides import side_task
from tests import reference, samples
from tests.samples import free, slide

REST = ("rest",)
BITS = samples.BITS
TASK = (BITS, ((0, 0), (1, 1)), (((0, 0), (1, 1), ((1, 1),)),))
RULE = (((0, 1), (1, 1)), ((1, 0), (1, 1)))
LOOKS = ("look", 0, (("look", 1, (REST, ("put", 0, 1))), ("look", 1, (("put", 1, 1), REST))))


def actions_told(task, rule):
    told = {rest: REST for rest in task[1]}
    for one, other in rule:
        place, = [k for k in range(len(one)) if one[k] != other[k]]
        told[one] = ("put", place, other[place])
    return told


def actions_of(bench):
    return [REST] + [("put", place, value) for place in range(len(bench)) for value in range(bench[place][0])]


def is_looks(bench, thing, seen=()):
    if repr(thing) in [repr(action) for action in actions_of(bench)]:
        return True
    if not isinstance(thing, tuple) or len(thing) != 3 or not isinstance(thing[0], str) or thing[0] != "look":
        return False
    if repr(thing[1]) not in [repr(place) for place in range(len(bench)) if place not in seen]:
        return False
    if not isinstance(thing[2], tuple) or len(thing[2]) != bench[thing[1]][0]:
        return False
    return all(is_looks(bench, branch, seen + (thing[1],)) for branch in thing[2])


def come_to(looks, content):
    return looks if looks[0] != "look" else come_to(looks[2][content[looks[1]]], content)


def depth_of(looks):
    return 0 if looks[0] != "look" else 1 + max(depth_of(branch) for branch in looks[2])


def depth_told(task, rule, thing):
    """What looks_depth returns, by the words of the document."""
    if not is_looks(task[0], thing):
        return None
    told = actions_told(task, rule)
    return depth_of(thing) if all(come_to(thing, content) == told[content] for content in told) else None


def least_depth(task, rule):
    """The least depth of looks, from all places that may be looked at first, then next, and so on."""
    told = tuple(sorted(actions_told(task, rule).items()))

    @lru_cache(maxsize=None)
    def least(left, places):
        if len({action for _, action in left}) < 2:
            return 0
        depths = []
        for place in places:
            others = tuple(other for other in places if other != place)
            depths.append(1 + max(least(tuple(item for item in left if item[0][place] == value), others)
                                  for value in range(task[0][place][0])))
        return min(depths)
    return least(told, tuple(range(len(task[0]))))


def rules_told(task, model):
    """All rules of the contents in a model that lead each of them home, in ascending order."""
    homes = {content: rest for rest, lot in zip(task[1], model) for content in lot}
    contents = sorted(content for content in homes if content not in task[1])
    ahead = [[other for other in samples.next_ones(task[0], one) if homes.get(other) == homes[one]] for one in contents]
    found = []
    for others in product(*ahead):
        rule = tuple(zip(contents, others))
        if all(reference.home(task, rule, content) == homes[content] for content in contents):
            found.append(rule)
    return found


def some_rule(rng, most):
    """A task with a rule of none, one or many rows."""
    task = samples.random_task(rng, None, most)
    kind = rng.randrange(4)
    if kind == 0:
        return task, samples.random_rule(rng, task, rng.choice([0, 0.1, 0.5, 1]))
    return task, samples.forest_rule(rng, task, [0.5, 0.9, 1][kind - 1])


class LooksTest(unittest.TestCase):
    def agree(self, task, rule, thing):
        depth = looks_depth(task, rule, thing)
        self.assertEqual(repr(depth), repr(depth_told(task, rule, thing)), (task, rule, repr(thing)[:500]))
        return depth

    def check(self, task, rule):
        told = least_looks(task, rule)
        depth, looks = told
        self.assertIs(type(told), tuple)
        self.assertEqual(depth, least_depth(task, rule))
        self.assertEqual(self.agree(task, rule, looks), depth)
        for content, action in actions_told(task, rule).items():
            self.assertEqual(action_by(looks, content), action)
        self.assertEqual(least_looks(task, rule), told)
        return told

    def test_small_ones(self):
        self.assertEqual(least_looks(TASK, RULE)[0], 2)
        self.assertEqual(looks_depth(TASK, RULE, LOOKS), 2)
        self.assertEqual([action_by(LOOKS, content) for content in samples.contents(BITS)],
                         [REST, ("put", 0, 1), ("put", 1, 1), REST])
        self.assertEqual(action_by(REST, (1, 0)), REST)
        self.assertEqual(action_by(("put", 1, 0), (1, 0)), ("put", 1, 0))

    def test_rests_alone(self):
        for rests in [((0, 0),), ((0, 0), (1, 1)), tuple(samples.contents(BITS))]:
            task = (BITS, rests, ())
            self.assertEqual(least_looks(task, ()), (0, REST))
            self.assertEqual(self.agree(task, (), REST), 0)
            self.assertIsNone(self.agree(task, (), ("put", 0, 0)))
            # More may be looked at than there is need of.
            self.assertEqual(self.agree(task, (), ("look", 1, (REST, REST))), 1)

    def test_one_row(self):
        task = (BITS, ((0, 0),), ())
        self.assertEqual(least_looks(task, (((0, 1), (0, 0)),)), (1, ("look", 1, (REST, ("put", 1, 0)))))
        self.assertEqual(self.agree(task, (((0, 1), (0, 0)),), ("put", 1, 0)), None)
        # Contents that are neither rests nor in rows are of no concern.
        for other in actions_of(BITS):
            looks = ("look", 1, (("look", 0, (REST, other)), ("put", 1, 0)))
            self.assertEqual(self.agree(task, (((0, 1), (0, 0)),), looks), 2)
        # But even there nothing may stand that is no looks.
        for other in [("put", 0, 2), ("put", 2, 0), ("put", 0, -1), ("put", -1, 0), ("put", False, 0), ("put", 0, True),
                      ("put", 0, 10 ** 39), ("put", 10 ** 39, 0), ("put", 0, None), ("put", 0, (1,)), ("put", 0),
                      ("put",), ("rest", 0), ("rest", 0, 0), ("Rest",), ("see", 0, (REST, REST)),
                      ("Look", 1, (REST, REST)), None, ("look", 0, (REST, REST)), ("look", 1, (REST, REST)), (), "rest",
                      ["rest"], (REST,), 0, ("look",)]:
            looks = ("look", 1, (("look", 0, (REST, other)), ("put", 1, 0)))
            self.assertIsNone(self.agree(task, (((0, 1), (0, 0)),), looks))
            looks = ("look", 1, (("look", 0, (other, REST)), ("put", 1, 0)))
            self.assertIsNone(self.agree(task, (((0, 1), (0, 0)),), looks))

    def test_what_no_content_comes_to(self):
        task, rule = ((free_place(2),) * 3, ((0, 0, 0),), ()), (((0, 0, 1), (0, 0, 0)),)
        told = ("look", 2, (REST, ("put", 2, 0)))
        for other in [REST, ("put", 1, 1), told, ("look", 1, (REST, told)), ("look", 1, (told, ("put", 2, 1)))]:
            self.assertIsNotNone(self.agree(task, rule, ("look", 0, (told, other))))
        for other in [("see", 1, (REST, REST)), ("Look", 1, (REST, REST)), ("rest", 1, (REST, REST)),
                      ("look", 1, [REST, REST]), ("look", 0, (REST, REST)), ("look", 1, (REST,)),
                      ("look", 1, (REST, REST, REST)), ("look", 3, (REST, REST)), ("look", True, (REST, REST)),
                      ("look", -1, (REST, REST)), ("look", 1, (REST, ("look", 1, (REST, REST)))),
                      (None, 1, (REST, REST)), ("put", 1, (REST, REST)), ("look", 1, (REST, None)),
                      (1, 1, (REST, REST))]:
            self.assertIsNone(self.agree(task, rule, ("look", 0, (told, other))))

    def test_ordinary_rules(self):
        rng = random.Random(211)
        seen = {}
        for _ in range(300):
            task, rule = some_rule(rng, rng.choice([8, 16, 36]))
            before = repr((task, rule))
            depth, _ = self.check(task, rule)
            self.assertEqual(repr((task, rule)), before)
            key = (min(len(rule), 2), depth)
            seen[key] = seen.get(key, 0) + 1
        self.assertTrue({depth for _, depth in seen} >= {0, 1, 2, 3, 4, 5}, seen)
        self.assertTrue({many for many, _ in seen} == {0, 1, 2}, seen)

    def test_larger_benches(self):
        rng = random.Random(212)
        for _ in range(4):
            (one, plan), (other, _) = [samples.random_kept(rng, 12, 4, False) for _ in range(2)]
            task = side_task(one, other)
            rule = samples.forest_rule(rng, task, 0.99)
            depth, looks = least_looks(task, rule)
            self.assertEqual(looks_depth(task, rule, looks), depth)

    def test_no_looks(self):
        put = ("put", 0, 1)
        for thing in [REST, put, ("look", 0, (REST, REST)), ("look", 0, (LOOKS[2][0],)),
                      ("look", 0, LOOKS[2] + (REST,)),
                      ("look", 0, ()), ("look", 0, list(LOOKS[2])), ["look", 0, LOOKS[2]], ("look", 0),
                      ("look", 2, LOOKS[2]), ("look", -2, LOOKS[2]), ("look", False, LOOKS[2]),
                      ("look", 10 ** 39, LOOKS[2]), ("Look", 0, LOOKS[2]),
                      ("look", 0, (("look", 0, (REST, put)), LOOKS[2][1])), ("look", 1, LOOKS[2]),
                      ("look", 0, (("look", 1, (REST, ("put", 0, True))), LOOKS[2][1])),
                      ("look", 0, (("look", 1, (REST, ("put", 0, 2))), LOOKS[2][1])),
                      ("look", 0, (("look", 1, (REST, ("put", 2, 1))), LOOKS[2][1])),
                      ("look", 0, (("look", True, (REST, put)), LOOKS[2][1])),
                      ("look", 0, (("look", 1, (("rest", 0), put)), LOOKS[2][1])),
                      ("look", 0, (("look", 1, ("rest", put)), LOOKS[2][1])), LOOKS + (0,), (LOOKS,), LOOKS[2]]:
            self.assertIsNone(self.agree(TASK, RULE, thing), thing)
        self.assertEqual(self.agree(TASK, RULE, LOOKS), 2)

    def test_looks_at_all_places(self):
        rng = random.Random(213)
        for _ in range(60):
            task, rule = some_rule(rng, 16)
            told = actions_told(task, rule)

            def full(content, places):
                if not places:
                    values = tuple(content[place] for place in range(len(task[0])))
                    return told.get(values, rng.choice(actions_of(task[0])))
                place, left = places[0], places[1:]
                return ("look", place, tuple(full({**content, place: v}, left) for v in range(task[0][place][0])))
            places = rng.sample(range(len(task[0])), len(task[0]))
            self.assertEqual(self.agree(task, rule, full({}, places)), len(places))
            # A place that is looked at twice, and one that is not looked at though there is need.
            self.assertIsNone(self.agree(task, rule, full({}, places + places[:1])))
            self.assertEqual(looks_depth(task, rule, least_looks(task, rule)[1]), least_looks(task, rule)[0])

    def test_bent_looks(self):
        rng = random.Random(214)
        for task, rule, looks in [(TASK, RULE, LOOKS)] + [
                (*pair, least_looks(*pair)[1]) for pair in [some_rule(rng, 9) for _ in range(12)]]:
            for bent in samples.bends(looks):
                self.agree(task, rule, bent)
            for bent in samples.as_truths(looks):
                self.assertIsNone(self.agree(task, rule, bent))

    def test_looks_with_other_parts(self):
        rng = random.Random(215)
        seen = {True: 0, False: 0}

        def otherwise(looks, bench):
            if looks[0] != "look" or rng.random() < 0.1:
                action = rng.choice(actions_of(bench))
                return rng.choice([action, ("look", rng.randrange(len(bench)), (action,) * rng.randint(1, 4))])
            k = rng.randrange(len(looks[2]))
            return looks[:2] + (looks[2][:k] + (otherwise(looks[2][k], bench),) + looks[2][k + 1:],)
        for _ in range(150):
            task, rule = some_rule(rng, 16)
            for _ in range(8):
                looks = otherwise(least_looks(task, rule)[1], task[0])
                seen[self.agree(task, rule, looks) is None] += 1
        self.assertGreater(min(seen.values()), 50, seen)

    def test_values_of_any_kind(self):
        for thing in samples.odd_values():
            for given in [thing, ("look", thing, LOOKS[2]), ("look", 0, thing), ("look", 0, (thing, LOOKS[2][1])),
                          (thing,), (thing, 0, LOOKS[2]), ("put", thing, 0), ("put", 0, thing),
                          ("look", 0, (thing, thing))]:
                self.agree(TASK, RULE, given)
                self.agree((BITS, ((0, 0),), ()), (), given)

    def test_least_rule_of_small_ones(self):
        bench = (free_place(2), free_place(2))
        task = (bench, ((0, 0),), ())
        everything = (tuple(samples.contents(bench)),)
        # (1, 1) may go home by either of two contents, and these by themselves or by it.
        depth, looks, rule = least_rule(task, everything, 4)
        self.assertEqual((depth, rule), (2, (((0, 1), (0, 0)), ((1, 0), (0, 0)), ((1, 1), (0, 1)))))
        self.assertEqual(looks_depth(task, rule, looks), 2)
        self.assertEqual(len(rules_told(task, everything)), 4)
        for most in [1, 2, 3]:
            with self.assertRaises(TooMany) as caught:
                least_rule(task, everything, most)
            self.assertEqual(vars(caught.exception), {"most": most})
        self.assertEqual(least_rule(task, (((0, 0),),), 1), (0, REST, ()))
        task = ((slide_place(3),), ((0,), (2,)), ())
        self.assertEqual(least_rule(task, (((0,), (1,)), ((2,),)), 1),
                         (1, ("look", 0, (REST, ("put", 0, 0), REST)), (((1,), (0,)),)))

    def test_least_rule_against_all_rules(self):
        rng = random.Random(216)
        seen = {}
        least = 0
        while len(seen) < 12 or least < 20:
            task, plan = samples.random_kept(rng, rng.choice([6, 9, 12]), 4, False)
            model = model_of(task, plan)
            if prod(len(samples.next_ones(task[0], one)) for lot in model for one in lot if one not in task[1]) > 3000:
                continue
            rules = rules_told(task, model)
            if len(rules) > 120:
                continue
            depths = [least_depth(task, rule) for rule in rules]
            expected = min(zip(depths, rules))
            told = least_rule(task, model, min(500, len(rules) + rng.choice([0, 1, 100])))
            self.assertIs(type(told), tuple)
            depth, looks, rule = told
            self.assertEqual((depth, rule), expected)
            self.assertEqual(self.agree(task, rule, looks), depth)
            self.assertTrue(is_rule(task, rule) and model_of(task, (rule, plan[1])) == model)
            least += depth < depths[0] and rule != rule_of(task, model)
            for most in {1, len(rules) // 2, len(rules) - 1} - {0}:
                if most < len(rules):
                    with self.assertRaises(TooMany) as caught:
                        least_rule(task, model, most)
                    self.assertEqual(vars(caught.exception), {"most": most})
            seen[len(rules)] = seen.get(len(rules), 0) + 1

    def test_more_rules_than_can_be_gone_through(self):
        for bench in [(free(2),) * 5, (free(6), free(6)), (slide(6), slide(6))]:
            task = (bench, (samples.contents(bench)[0],), ())
            for most in [1, 499, 500]:
                with self.assertRaises(TooMany) as caught:
                    least_rule(task, (tuple(samples.contents(bench)),), most)
                self.assertEqual(vars(caught.exception), {"most": most})

    def test_five_hundred_rules(self):
        # A ring of z contents has z rules; four rings apart from each other have as many as their product.
        ring = samples.dial(5)
        bench = (ring, (4, ()))
        rests = tuple((0, k) for k in range(4))
        model = tuple(tuple((v, k) for v in range(5)) for k in range(3))
        task = (bench, rests, ())
        rules = 5 ** 3
        depth, looks, rule = least_rule(task, model + (((0, 3),),), rules)
        self.assertEqual(looks_depth(task, rule, looks), depth)
        with self.assertRaises(TooMany):
            least_rule(task, model + (((0, 3),),), rules - 1)
        wider = model[:2] + (tuple((v, 2) for v in range(5)), ((0, 3), (1, 3), (4, 3)))
        self.assertEqual(least_rule(task, wider, 125)[0], depth)
        with self.assertRaises(TooMany):
            least_rule(task, model + (tuple((v, 3) for v in range(5)),), 500)

    def test_answers_are_the_same_again(self):
        before = repr((TASK, RULE, LOOKS))
        for _ in range(2):
            self.assertEqual(least_looks(TASK, RULE), least_looks(TASK, RULE))
            self.assertEqual(looks_depth(TASK, RULE, LOOKS), 2)
            self.assertEqual(least_rule(TASK, (((0, 0),), ((0, 1), (1, 0), (1, 1))), 5)[0], 2)
        self.assertEqual(repr((TASK, RULE, LOOKS)), before)


if __name__ == "__main__":
    unittest.main()
