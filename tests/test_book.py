"""[67] with [3], [4], [32], [37], [38], [56] and [59]: Books, their deeds, promises and errors."""

import random
import unittest

from onorback.benches import either_order, free_place, slide_place, with_orders
from onorback.book import Book
from onorback.cases import case_tree, is_tree
from onorback.errors import Broken, InUse, NoDeed, NoIndex, NoOrder, NoRest, NotKept, Nothing, Refused, TooMany, Wrong
from onorback.finding import find_model
from onorback.forms import is_plan, is_task
from onorback.judging import broken_orders, keeps_task
from onorback.late import late_deeds_in, late_distance, late_story
from onorback.models import plan_of
from onorback.player import Player
from onorback.reader import read_task
from onorback.wrong import wrong_deeds_in, wrong_distance, wrong_story
from tests import hands, samples
from tests.thresholds import THRESHOLDS

A, B, C, D, E, F = [(k,) for k in range(6)]
SLIDE = (slide_place(6),)
TASK = (SLIDE, (A, E), (either_order(A, E), either_order(E, A)))
# From (0,) to (2,) past (1,), which is a rest and the order's only end.
PAST = ((slide_place(3),), (A, B, C), ((A, C, (B,)),))

# Tasks that are led by one deed to one for which there are too many cases.
CROWDED = [
    ("slide 4\nslide 4\nrests 00 03 31 33\nback 33 00", ("order", (0, 3), (3, 1), ((0, 3),))),
    ("free 2\nfree 2\nslide 3\nrests 002 101 110\nback 002 110\nback 101 002\nback 101 110\nback 110 101",
     ("rest", (1, 0, 0))),
    ("slide 6\nslide 6\nrests 01 24 42 45\nback 01 24\nback 01 42\nback 24 42\nback 42 24\nback 45 24\nback 45 42",
     ("drop", (0, 1), (2, 4))),
]
# The same, to one without a model.
LOST = [
    ("slide 4\nslide 4\nrests 00 03 22 33", ("order", (0, 3), (3, 3), ())),
    ("slide 4\nslide 4\nrests 11 13 31\non 13 31\non 31 11\non 31 13", ("rest", (2, 1))),
    ("slide 3\nrests 0 1 2\norder 0 2 to 1", ("unrest", (1,))),
]


def found(task):
    return plan_of(task, find_model(task))


def holds(task, plan, promise):
    word, number = promise
    if word == "late":
        return hands.first_without_return(task) is not None or not task[2] or late_distance(task, plan) >= number
    distance = wrong_distance(task, plan)
    return distance is None or distance >= number


def another_plan(task, plan):
    """A plan whose first way is longer, going to and fro at its start; it keeps what the plan keeps."""
    way = plan[1][0]
    return (plan[0], ((way[0], way[1]) + way,) + plan[1][1:])


class BookTest(unittest.TestCase):
    def seen(self, book):
        return [book.task_now(), book.plan_now(), book.promises_now(), book.deeds_done()]

    def refuses(self, book, error, fields, deed):
        """The deed is refused, and nothing has changed, in what can be taken back and done again neither."""
        before, other = repr(self.seen(book)), book.copied()
        given = repr(deed)
        with self.assertRaises(error) as caught:
            book.do(deed)
        self.assertIs(type(caught.exception), error)
        self.assertEqual(vars(caught.exception), fields)
        self.assertEqual((repr(self.seen(book)), repr(deed)), (before, given))
        self.same_again(book.copied(), other)
        return caught.exception

    def same_again(self, one, other):
        """Two books are led alike from now on: what they take back and do again is the same."""
        for word in ["redo", "undo"]:
            while True:
                self.assertEqual(repr(self.seen(one)), repr(self.seen(other)))
                try:
                    told = getattr(one, word)()
                except Nothing:
                    with self.assertRaises(Nothing):
                        getattr(other, word)()
                    break
                self.assertEqual(repr(told), repr(getattr(other, word)()))

    def done(self, book, deed, task=None, plan=None, promises=None):
        """The deed is done, and leads to this task, plan and promises; what is not told stays."""
        before = self.seen(book)
        given = repr(deed)
        self.assertIsNone(book.do(deed))
        self.assertEqual(repr(deed), given)
        task = before[0] if task is None else task
        plan = before[1] if plan is None else plan
        promises = before[2] if promises is None else promises
        self.assertEqual(repr(self.seen(book)), repr([task, plan, promises, before[3] + [deed]]))
        self.assertTrue(is_task(task) and is_plan(task, plan) and keeps_task(task, plan))
        # Taken back, and done again.
        self.assertEqual(repr(book.undo()), given)
        self.assertEqual(repr(self.seen(book)), repr(before))
        self.assertEqual(repr(book.redo()), given)
        self.assertEqual(repr(self.seen(book)), repr([task, plan, promises, before[3] + [deed]]))

    def test_at_first(self):
        for task in [TASK, PAST, (SLIDE, (C,), ())]:
            self.assertEqual(self.seen(Book(task)), [task, found(task), [], []])
        rng = random.Random(221)
        for _ in range(40):
            task = samples.strung_task(rng)
            if find_model(task) is None:
                with self.assertRaises(Refused) as caught:
                    Book(task)
                self.assertEqual(vars(caught.exception), {"tree": case_tree(task)})
                self.assertIs(is_tree(task, caught.exception.tree), True)
            else:
                self.assertEqual(self.seen(Book(task)), [task, found(task), [], []])

    def test_wrong_arguments(self):
        for thing in samples.odd_values() + [list(TASK), TASK[:2], (SLIDE, (), ()), (SLIDE, (A, A), ()), Book(TASK)]:
            with self.assertRaises(Wrong) as caught:
                Book(thing)
            self.assertEqual(vars(caught.exception), {"place": 0})
        for thing in samples.as_truths(TASK):
            with self.assertRaises(Wrong):
                Book(thing)

    def test_too_many_at_first(self):
        for many, _, text in THRESHOLDS:
            if many > 1000:
                with self.assertRaises(TooMany) as caught:
                    Book(read_task(text))
                self.assertEqual(vars(caught.exception), {"most": 1000})

    def test_rests(self):
        book = Book(TASK)
        task = (SLIDE, (A, C, E), ())
        self.refuses(book, Refused, {"tree": case_tree(with_orders(task, TASK[2]))}, ("rest", C))
        task = (SLIDE, (A, E, F), TASK[2])
        self.done(book, ("rest", F), task, found(task))
        self.done(book, ("unrest", F), TASK, found(TASK))
        for thing in [A, E, (6,), (-1,), (0, 0), (), [C], (True,), (2.0,), None, 2, "2",
                      ((2,),)] + samples.odd_values():
            self.refuses(book, NoRest, {"content": thing}, ("rest", thing))
        for thing in [C, F, (6,), (False,), [A], (0, 0), (), None, 0] + samples.odd_values():
            if repr(thing) != "(0,)":
                self.refuses(book, NoRest, {"content": thing}, ("unrest", thing))

    def test_errors_keep_the_objects(self):
        book = Book(TASK)
        thing, other = [A], {"a": E}
        self.assertIs(self.refuses(book, NoRest, {"content": thing}, ("rest", thing)).content, thing)
        fields = {"start": thing, "goal": other}
        self.assertIs(self.refuses(book, NoOrder, fields, ("order", thing, other, ())).goal, other)
        self.assertIs(self.refuses(book, NoOrder, fields, ("drop", thing, other)).start, thing)
        self.assertIs(self.refuses(book, NoIndex, {"index": thing}, ("free", thing)).index, thing)

    def test_a_rest_that_is_no_more_is_no_end(self):
        orders = ((A, E, (A, E, F)), (E, A, (F,)))
        task = (SLIDE, (A, E, F), orders[:1])
        book = Book(task)
        told = (SLIDE, (A, E), ((A, E, (A, E)),))
        self.done(book, ("unrest", F), told, found(told))
        # As an end it may be what a model needs.
        book = Book(PAST)
        task = ((slide_place(3),), (A, C), ((A, C, ()),))
        self.refuses(book, Refused, {"tree": case_tree(task)}, ("unrest", B))

    def test_a_rest_in_use(self):
        task = (SLIDE, (A, B, E), (either_order(A, B), either_order(B, A), either_order(B, E)))
        book = Book(task)
        self.refuses(book, InUse, {"start": A, "goal": B}, ("unrest", A))
        self.refuses(book, InUse, {"start": A, "goal": B}, ("unrest", B))
        self.refuses(book, InUse, {"start": B, "goal": E}, ("unrest", E))
        told = with_orders(task, [either_order(B, E)])
        self.done(book, ("drop", A, B), with_orders(task, task[2][1:]), found(with_orders(task, task[2][1:])))
        self.refuses(book, InUse, {"start": B, "goal": A}, ("unrest", A))
        self.done(book, ("drop", B, A), told, found(told))
        self.done(book, ("unrest", A), (SLIDE, (B, E), told[2]), found((SLIDE, (B, E), told[2])))

    def test_the_only_rest(self):
        book = Book((SLIDE, (C,), ()))
        self.refuses(book, NoRest, {"content": C}, ("unrest", C))
        self.done(book, ("rest", A), (SLIDE, (A, C), ()), found((SLIDE, (A, C), ())))
        self.done(book, ("unrest", C), (SLIDE, (A,), ()), found((SLIDE, (A,), ())))
        self.refuses(book, NoRest, {"content": A}, ("unrest", A))
        self.refuses(book, NoRest, {"content": C}, ("unrest", C))

    def test_orders(self):
        book = Book(with_orders(TASK, []))
        for order in [(A, E, (A,)), (E, A, ()), (A, E, ()), (E, A, (A, E))]:
            task = with_orders(TASK, [order])
            if find_model(task) is None:
                self.refuses(book, Refused, {"tree": case_tree(task)}, ("order",) + order)
                continue
            self.done(book, ("order",) + order, task, found(task))
            for ends in [(A,), (), order[2], (A, E), 5, (E, A)]:
                self.refuses(book, NoOrder, {"start": order[0], "goal": order[1]}, ("order",) + order[:2] + (ends,))
            self.done(book, ("drop",) + order[:2], with_orders(TASK, []), found(with_orders(TASK, [])))
            self.refuses(book, NoOrder, {"start": order[0], "goal": order[1]}, ("drop",) + order[:2])

    def test_what_is_no_order(self):
        book = Book(with_orders(TASK, TASK[2][:1]))
        for start, goal, ends in [
                (A, A, ()), (E, C, ()), (C, E, ()), (E, A, (C,)), (E, A, (E, A)), (E, A, (A, A)), (E, A, [A]),
                (E, A, None), (E, A, (A, A, E)), (E, (False,), ()), (E, A, ((False,),)), (E, [0], ()), ([4], A, ()),
                (E, A, A), (E, A, (6,)), (E, 0, ()), (None, A, ()), ((4, 0), A, ()), (E, A, ((0, 0),)), (A, E, ()),
                (E, A, {A: 1})]:
            self.refuses(book, NoOrder, {"start": start, "goal": goal}, ("order", start, goal, ends))
        for start, goal in [(E, A), (A, A), (A, C), ((False,), E), (A, [4]), (A, 4), (None, None), ((0, 0), E),
                            (A, (9,))]:
            self.refuses(book, NoOrder, {"start": start, "goal": goal}, ("drop", start, goal))
        other = Book(with_orders(TASK, TASK[2][1:]))
        for goal in [(False,), (0.0,), [0], 0, "0", (0, 0), (-6,)]:
            self.refuses(other, NoOrder, {"start": E, "goal": goal}, ("drop", E, goal))
        for thing in samples.odd_values():
            if repr(thing) not in ("(0,)", "()"):
                self.refuses(book, NoOrder, {"start": thing, "goal": A}, ("order", thing, A, ()))
                self.refuses(book, NoOrder, {"start": E, "goal": thing}, ("order", E, thing, ()))
                self.refuses(book, NoOrder, {"start": E, "goal": A}, ("order", E, A, thing))
                self.refuses(book, NoOrder, {"start": thing, "goal": E}, ("drop", thing, E))
                self.refuses(book, NoOrder, {"start": A, "goal": thing}, ("drop", A, thing))

    def test_plans(self):
        book = Book(TASK)
        plan = another_plan(TASK, book.plan_now())
        self.done(book, ("plan", plan), TASK, plan)
        self.done(book, ("plan", found(TASK)), TASK, found(TASK))
        # With (2,) at the other rest, too, nothing is kept less.
        other = (((B, A), (C, D), (D, E)), plan[1])
        self.done(book, ("plan", other), TASK, other)
        broken = (((B, A), (C, B)), plan[1])
        self.refuses(book, NotKept, {"index": 0}, ("plan", broken))
        task = (SLIDE, (A, B, E), (either_order(A, B), either_order(B, A), either_order(B, E), (E, B, ())))
        book = Book(with_orders(task, task[2][:3]))
        way = (B, C, D, E)
        self.refuses(book, NotKept, {"index": 2}, ("plan", ((), ((A, B), (B, A), way))))
        self.refuses(book, NoDeed, {}, ("plan", ((), ((A, B), (B, A)))))
        rows = ((C, B), (D, E))
        self.done(book, ("plan", (rows, ((A, B), (B, A), way))), None, (rows, ((A, B), (B, A), way)))

    def test_what_is_no_deed(self):
        book = Book(TASK)
        plan = book.plan_now()
        promise = ("late", 1)
        for thing in [("rest",), ("rest", F, F), ("unrest",), ("unrest", F, F), ("order", A, E),
                      ("order", A, E, (), ()),
                      ("drop", A), ("drop", A, E, ()), ("plan",), ("plan", plan, plan), ("plan", plan[0]),
                      ("plan", ((), ())), ("plan", list(plan)), ("plan", plan + ((),)), ("promise",),
                      ("promise", "late", 1), ("promise", ("late",)), ("promise", ("late", 0)),
                      ("promise", ("late", -1)), ("promise", ("late", True)), ("promise", ["late", 1]),
                      ("promise", ("Late", 1)), ("promise", ("late", 1, 1)), ("promise", ("late", "1")),
                      ("promise", ("late", None)), ("promise", (1, "late")), ("promise", "late 1"),
                      ("promise", ("mixed", 1)), ("promise", ("wrong", 0)), ("free",), ("free", 0, 0), ("undo",),
                      ("redo",), ("step",), ("Rest", F), ("", F), (None, F), ((), F), (True, F), ("rest F",),
                      ["rest", F], {"rest": F}, "rest", (), (("rest", F),), [("rest", F)], (["rest"], F),
                      ("either", A, E), ("plan", another_plan((SLIDE, (A, F), ()), (plan[0], ((A, B, C),))))]:
            self.refuses(book, NoDeed, {}, thing)
        for thing in samples.odd_values():
            for given in [thing, (thing,), ("plan", thing), ("promise", thing), (thing, F), ("promise", (thing, 1)),
                          ("rest", F, thing), ("plan", (plan[0], thing))]:
                self.refuses(book, NoDeed, {}, given)
            if type(thing) is not int or thing < 1:
                self.refuses(book, NoDeed, {}, ("promise", ("late", thing)))
            if thing != ():
                self.refuses(book, NoDeed, {}, ("plan", (thing, plan[1])))
        for bent in samples.as_truths(plan):
            self.refuses(book, NoDeed, {}, ("plan", bent))
        self.done(book, ("promise", promise), None, None, [promise])

    def test_a_plan_of_another_task(self):
        book = Book(TASK)
        for task in [PAST, with_orders(TASK, TASK[2][:1]), (SLIDE, (A, F), (either_order(A, F), either_order(F, A)))]:
            self.refuses(book, NoDeed, {}, ("plan", found(task)))

    def test_promises(self):
        book = Book(TASK)
        self.assertEqual((late_distance(TASK, found(TASK)), wrong_distance(TASK, found(TASK))), (1, 1))
        one, two = ("late", 1), ("wrong", 1)
        self.done(book, ("promise", one), None, None, [one])
        self.done(book, ("promise", two), None, None, [one, two])
        self.done(book, ("promise", one), None, None, [one, two, one])
        for number in [2, 3, 100, 2 ** 63, 10 ** 30]:
            story = late_story(TASK, found(TASK))
            self.refuses(book, Broken, {"index": 3, "story": story}, ("promise", ("late", number)))
            story = wrong_story(TASK, found(TASK))
            self.refuses(book, Broken, {"index": 3, "story": story}, ("promise", ("wrong", number)))
        self.done(book, ("free", 0), None, None, [two, one])
        for index in [2, -1, True, False, None, "0", (0,), 2 ** 63, 10 ** 39] + samples.odd_values():
            if type(index) is not int or not 0 <= index < 2:
                self.refuses(book, NoIndex, {"index": index}, ("free", index))
        self.done(book, ("free", 1), None, None, [two])
        self.done(book, ("free", 0), None, None, [])
        self.refuses(book, NoIndex, {"index": 0}, ("free", 0))

    def test_promises_that_plans_and_orders_break(self):
        book = Book(TASK)
        rule = ((B, A), (C, B), (D, E))
        sturdy = (rule, ((A, B, C, D, E), (E, D, C, B, A)))
        self.assertEqual(late_distance(TASK, sturdy), 2)
        self.done(book, ("plan", sturdy), None, sturdy)
        self.done(book, ("promise", ("wrong", 1)), None, None, [("wrong", 1)])
        promises = [("wrong", 1), ("late", 2)]
        self.done(book, ("promise", promises[1]), None, None, promises)
        # A plan that holds the promise less, and deeds behind which the plan is found anew.
        story = late_story(TASK, found(TASK))
        self.refuses(book, Broken, {"index": 1, "story": story}, ("plan", found(TASK)))
        task = (SLIDE, (A, E, F), TASK[2])
        story = late_story(task, found(task))
        self.refuses(book, Broken, {"index": 1, "story": story}, ("rest", F))
        # With one order alone there is no late distance, and with none neither.
        task = with_orders(TASK, TASK[2][:1])
        self.done(book, ("drop", E, A), task, found(task))
        self.done(book, ("promise", ("late", 10 ** 30)), None, None, promises + [("late", 10 ** 30)])
        story = late_story(TASK, found(TASK))
        self.refuses(book, Broken, {"index": 1, "story": story}, ("order",) + TASK[2][1])
        self.done(book, ("free", 1), None, None, [("wrong", 1), ("late", 10 ** 30)])
        self.refuses(book, Broken, {"index": 1, "story": story}, ("order",) + TASK[2][1])
        task = with_orders(TASK, [])
        self.done(book, ("drop", A, E), task, found(task))
        self.assertEqual(late_deeds_in(TASK, found(TASK), story), 1)

    def test_wrong_promises(self):
        # From one rest alone that all contents come home to there is no wrong distance.
        task = (SLIDE, (A,), ())
        rule = tuple(((k + 1,), (k,)) for k in range(5))
        book = Book(task)
        story = wrong_story(task, found(task))
        self.refuses(book, Broken, {"index": 0, "story": story}, ("promise", ("wrong", 2)))
        self.assertEqual(wrong_deeds_in(task, found(task), story), 1)
        self.done(book, ("plan", (rule, ())), None, (rule, ()))
        self.done(book, ("promise", ("wrong", 10 ** 39)), None, None, [("wrong", 10 ** 39)])
        self.refuses(book, Broken, {"index": 0, "story": story}, ("plan", ((), ())))
        self.refuses(book, Broken, {"index": 0, "story": wrong_story((SLIDE, (A, F), ()), ((), ()))}, ("rest", F))
        self.done(book, ("promise", ("late", 5)), None, None, [("wrong", 10 ** 39), ("late", 5)])

    def test_the_least_promise_that_is_broken(self):
        book = Book(with_orders(TASK, []))
        for promise in [("wrong", 1), ("late", 2), ("late", 1), ("late", 3), ("wrong", 1)]:
            book.do(("promise", promise))
        task = with_orders(TASK, TASK[2][:1])
        self.done(book, ("order",) + TASK[2][0], task, found(task))
        story = late_story(TASK, found(TASK))
        self.refuses(book, Broken, {"index": 1, "story": story}, ("order",) + TASK[2][1])
        self.refuses(book, Broken, {"index": 5, "story": wrong_story(task, found(task))}, ("promise", ("wrong", 2)))

    def test_no_model_and_too_many_cases(self):
        for text, deed in LOST:
            book = Book(read_task(text))
            with self.assertRaises(Refused) as caught:
                book.copied().do(deed)
            tree = caught.exception.tree
            self.refuses(book, Refused, {"tree": tree}, deed)
            self.assertEqual(tree[0] in ("split", "lost", "order"), True)
        for text, deed in CROWDED:
            self.refuses(Book(read_task(text)), TooMany, {"most": 1000}, deed)

    def test_errors_in_their_order(self):
        book = Book(PAST)
        self.refuses(book, NoDeed, {}, ("unrest", A, A))
        self.refuses(book, NoRest, {"content": D}, ("unrest", D))
        self.refuses(book, InUse, {"start": A, "goal": C}, ("unrest", A))
        # Too many cases come ahead of a promise that would be broken, and so does a task without a model.
        text, deed = CROWDED[0]
        book = Book(read_task(text))
        book.do(("promise", ("wrong", 1)))
        self.refuses(book, TooMany, {"most": 1000}, deed)
        text, deed = LOST[0]
        book = Book(read_task(text))
        book.do(("promise", ("late", 9)))
        with self.assertRaises(Refused):
            book.do(deed)
        # A plan that breaks an order, and a promise, too.
        book = Book(TASK)
        book.do(("promise", ("wrong", 1)))
        self.refuses(book, NotKept, {"index": 0}, ("plan", ((), book.plan_now()[1])))

    def test_undo_and_redo(self):
        book = Book(with_orders(TASK, []))
        for word in ["undo", "redo"]:
            with self.assertRaises(Nothing):
                getattr(book, word)()
        deeds = [("order",) + TASK[2][0], ("promise", ("late", 3)), ("rest", F), ("free", 0), ("drop", A, E),
                 ("unrest", A),
                 ("promise", ("wrong", 1)), ("order", E, F, ()), ("plan", ((), ((E, F),)))]
        states = [self.seen(book)]
        for deed in deeds:
            book.do(deed)
            states.append(self.seen(book))
        for k in range(len(deeds) - 1, -1, -1):
            self.assertEqual(book.undo(), deeds[k])
            self.assertEqual(self.seen(book), states[k])
        with self.assertRaises(Nothing):
            book.undo()
        for k in range(len(deeds)):
            # What is refused does not count, nor what cannot be taken back.
            with self.assertRaises(NoDeed):
                book.do(("order",))
            self.assertEqual(book.redo(), deeds[k])
            self.assertEqual(self.seen(book), states[k + 1])
        with self.assertRaises(Nothing):
            book.redo()
        # Behind a new deed, also one that is as the one taken back, nothing is done again.
        book.undo()
        book.undo()
        book.do(deeds[7])
        with self.assertRaises(Nothing):
            book.redo()
        self.assertEqual(self.seen(book), states[8])
        self.assertEqual(book.undo(), deeds[7])
        self.assertEqual(book.redo(), deeds[7])

    def test_copies_go_their_own_ways(self):
        book = Book(with_orders(TASK, []))
        book.do(("promise", ("wrong", 1)))
        book.do(("order",) + TASK[2][0])
        book.do(("rest", F))
        book.undo()
        other = book.copied()
        self.assertIsInstance(other, Book)
        self.assertTrue(other == book and not other != book)
        self.same_again(book.copied(), other.copied())
        self.assertEqual(other.redo(), ("rest", F))
        self.assertEqual(self.seen(book)[0], with_orders(TASK, TASK[2][:1]))
        self.assertEqual(book.undo(), ("order",) + TASK[2][0])
        book.do(("free", 0))
        self.assertEqual(other.promises_now(), [("wrong", 1)])
        self.assertEqual([other.undo() for _ in range(3)], [("rest", F), ("order",) + TASK[2][0],
                                                            ("promise", ("wrong", 1))])
        self.assertEqual(book.deeds_done(), [("promise", ("wrong", 1)), ("free", 0)])
        with self.assertRaises(Nothing):
            book.redo()
        self.assertEqual(other.redo(), ("promise", ("wrong", 1)))

    def test_equality(self):
        book = Book(TASK)
        self.assertIs(book == Book(TASK), True)
        self.assertIs(book != Book(TASK), False)
        self.assertIs(book == Book(with_orders(TASK, [])), False)
        other = Book(with_orders(TASK, TASK[2][:1]))
        self.assertIs(book == other, False)
        other.do(("order",) + TASK[2][1])
        self.assertIs(book == other, True)
        other.do(("promise", ("wrong", 1)))
        self.assertIs(book == other, False)
        book.do(("promise", ("late", 1)))
        self.assertIs(book == other, False)
        book.do(("promise", ("wrong", 1)))
        other.do(("promise", ("late", 1)))
        self.assertIs(book == other, False)
        other.do(("free", 0))
        other.do(("promise", ("wrong", 1)))
        self.assertIs(book == other, True)
        book.do(("plan", another_plan(TASK, book.plan_now())))
        self.assertIs(book == other, False)
        # Of the same plan, but of other tasks.
        one, two = Book((SLIDE, (A,), ())), Book((SLIDE, (B,), ()))
        self.assertEqual(one.plan_now(), two.plan_now())
        self.assertIs(one == two, False)
        player = Player(TASK, found(TASK), A)
        for thing in samples.odd_values() + [player, (TASK, found(TASK), []), TASK]:
            self.assertIs(book == thing, False)
            self.assertIs(thing == book, False)
            self.assertIs(book != thing, True)

    def test_ten_rests(self):
        bench = (free_place(2),) * 5
        contents = samples.contents(bench)
        rests = (contents[0], contents[31])
        book = Book((bench, rests, (either_order(*rests),)))
        for content in contents[5:27:3]:
            rests = tuple(sorted(rests + (content,)))
            task = (bench, rests, book.task_now()[2])
            self.done(book, ("rest", content), task, found(task))
        self.assertEqual(len(book.task_now()[1]), 10)
        order = (rests[3], rests[7], (rests[0],))
        task = with_orders(book.task_now(), list(book.task_now()[2]) + [order])
        self.done(book, ("order",) + order, task, found(task))
        task = with_orders(task, [either_order(rests[0], rests[9])])
        self.done(book, ("drop",) + order[:2], task, found(task))

    def test_books_led_at_random(self):
        rng = random.Random(222)
        seen = {}
        for _ in range(60):
            bench = samples.random_bench(rng, 8)
            contents = samples.contents(bench)
            task = (bench, tuple(sorted(rng.sample(contents, 2))), ())
            book, plan, promises, done, undone = Book(task), found(task), [], [], []
            for _ in range(25):
                word = rng.choice(["rest", "rest", "unrest", "order", "order", "order", "drop", "plan", "promise", "free",
                                   "undo", "redo"])
                state = (task, plan, promises)
                if word in ("undo", "redo"):
                    source, target = (done, undone) if word == "undo" else (undone, done)
                    if not source:
                        with self.assertRaises(Nothing):
                            getattr(book, word)()
                        continue
                    deed, (task, plan, promises) = source.pop()
                    target.append((deed, state))
                    self.assertEqual(getattr(book, word)(), deed)
                else:
                    deed = self.some_deed(rng, word, contents, task, plan, promises)
                    error, after = self.told_by(task, plan, promises, deed)
                    if error is None:
                        book.do(deed)
                        done.append((deed, state))
                        undone = []
                        task, plan, promises = after
                    else:
                        self.refuses(book, error, after, deed)
                    seen[(word, error and error.__name__)] = seen.get((word, error and error.__name__), 0) + 1
                self.assertEqual(repr(self.seen(book)), repr([task, plan, promises, [deed for deed, _ in done]]))
        for word in ["rest", "unrest", "order", "drop", "plan", "promise", "free"]:
            self.assertGreater(seen.get((word, None), 0), 5, seen)
        for key in [("unrest", "InUse"), ("order", "Refused"), ("order", "NoOrder"), ("plan", "NotKept"),
                    ("order", "Broken"),
                    ("promise", "Broken"), ("rest", "Refused"), ("rest", "NoRest")]:
            self.assertGreater(seen.get(key, 0), 2, (key, seen))

    def some_deed(self, rng, word, contents, task, plan, promises):
        rests = task[1]
        if word in ("rest", "unrest"):
            return (word, rng.choice(contents if word == "rest" else rests))
        if word == "order":
            start, goal = rng.choice(rests), rng.choice(rests)
            ends = [tuple(sorted({start, goal})), (goal,), (start,), (),
                    tuple(sorted(rng.sample(rests, rng.randint(0, len(rests)))))]
            return ("order", start, goal, rng.choice(ends))
        if word == "drop":
            return ("drop",) + (rng.choice(task[2])[:2] if task[2] else (rests[0], rests[0]))
        if word == "plan":
            rule = samples.random_rule(rng, task, 0.9) if rng.random() < 0.5 else plan[0]
            return ("plan", (rule, tuple(samples.random_way(rng, task[0], start, goal, 6) or way
                                         for (start, goal, _), way in zip(task[2], plan[1]))))
        if word == "promise":
            return ("promise", (rng.choice(["late", "wrong"]), rng.choice([1, 1, 1, 2, 3])))
        return ("free", rng.randint(0, len(promises)))

    def told_by(self, task, plan, promises, deed):
        """The error that a deed raises, with its fields, or None and what is so behind it."""
        word, given = deed[0], deed[1:]
        bench, rests, orders = task
        if word == "rest":
            if given[0] in rests:
                return NoRest, {"content": given[0]}
            task = (bench, tuple(sorted(rests + given)), orders)
        elif word == "unrest":
            if len(rests) == 1:
                return NoRest, {"content": given[0]}
            using = [order for order in orders if given[0] in order[:2]]
            if using:
                return InUse, {"start": using[0][0], "goal": using[0][1]}
            kept = tuple((s, g, tuple(e for e in ends if e != given[0])) for s, g, ends in orders)
            task = (bench, tuple(rest for rest in rests if rest != given[0]), kept)
        elif word in ("order", "drop"):
            there = given[:2] in [order[:2] for order in orders]
            if given[0] == given[1] or there == (word == "order"):
                return NoOrder, {"start": given[0], "goal": given[1]}
            kept = [order for order in orders if order[:2] != given[:2]]
            task = (bench, rests, tuple(sorted(kept + ([given] if word == "order" else []))))
        elif word == "plan":
            if broken_orders(task, given[0]):
                return NotKept, {"index": broken_orders(task, given[0])[0]}
            plan = given[0]
        elif word == "promise":
            promises = promises + [given[0]]
        else:
            if given[0] >= len(promises):
                return NoIndex, {"index": given[0]}
            promises = promises[:given[0]] + promises[given[0] + 1:]
        if word in ("rest", "unrest", "order", "drop"):
            if find_model(task) is None:
                return Refused, {"tree": case_tree(task)}
            plan = found(task)
        for index, promise in enumerate(promises):
            if not holds(task, plan, promise):
                story = late_story(task, plan) if promise[0] == "late" else wrong_story(task, plan)
                return Broken, {"index": index, "story": story}
        return None, (task, plan, promises)

    def test_answers_may_be_changed(self):
        book = Book(TASK)
        book.do(("promise", ("wrong", 1)))
        before = repr(self.seen(book))
        book.promises_now().clear()
        book.deeds_done().append(("rest", C))
        self.assertEqual(repr(self.seen(book)), before)
        for _ in range(2):
            with self.assertRaises(Broken) as caught:
                book.do(("promise", ("late", 2)))
            caught.exception.story[1].clear()
        self.assertEqual(repr(self.seen(book)), before)


if __name__ == "__main__":
    unittest.main()
