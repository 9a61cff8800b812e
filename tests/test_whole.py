"""The whole program: one task, from its text on, of which all modules say the same; [3] over all of them."""

import random
import unittest
from pathlib import Path

from onorback.anytoany import any_to_any
from onorback.benches import is_two_way, with_orders
from onorback.book import Book
from onorback.both import bears, breaking_pairs, mixed_deeds_in, mixed_story
from onorback.cases import case_tree, is_tree
from onorback.cuts import barring_cut, is_barring
from onorback.desk import Desk
from onorback.errors import Broken, NoCommand, NoIndex, NoRest, NoReturn, NoText, OnError, Refused, TooMany
from onorback.finding import find_model
from onorback.forms import is_model, is_plan, is_task
from onorback.greatest import greatest_orders
from onorback.homes import home_of, homes_of
from onorback.homeways import longest_home, tight_model
from onorback.judging import broken_orders, first_break, is_story, keeps_task, story_of
from onorback.late import barrier_of, is_barrier, late_deeds_in, late_distance, late_story
from onorback.leastlog import least_meeting, least_values
from onorback.logs import bears_couples, log_task, lots_of_layers
from onorback.looks import action_by, least_looks, least_rule, looks_depth
from onorback.mending import least_changes, way_by_rule
from onorback.models import model_of, plan_of, rule_of, unserved_orders
from onorback.player import Player, first_bad, played
from onorback.reader import read_bench, read_model, read_plan, read_task
from onorback.sides import room_word, side_plan, side_task
from onorback.situations import begin_situations, deeds_from
from onorback.sums import pairs_of, room_of, sum_fault
from onorback.texts import show_bench, show_model, show_plan, show_task
from onorback.wrong import is_wrong_barrier, wrong_barrier_of, wrong_deeds_in, wrong_distance, wrong_story
from tests import samples

PACKAGE = Path(__file__).resolve().parent.parent / "onorback"
README = PACKAGE.parent / "README.md"
STEP, DIE = ("step",), ("die",)
# Beside a place that nothing moves there is no more room than alone.
STILL = (((2, ()),), ((0,),), ())


def some_texts(seed, many):
    rng = random.Random(seed)
    for k in range(many):
        kind = k % 4
        if kind == 0:
            task = samples.strung_task(rng)
        elif kind == 1:
            task = samples.sturdy_kept(rng)[0]
        else:
            task = samples.knotty_task(rng) if kind == 2 else samples.random_task(rng, None, 12)
        yield show_task(task)


def late_told(task, plan):
    try:
        return late_distance(task, plan)
    except NoReturn:
        return None


class WholeTest(unittest.TestCase):
    def test_a_task_from_its_text_on(self):
        seen = {}
        for text in some_texts(241, 160):
            task = read_task(text)
            self.assertTrue(is_task(task))
            self.assertEqual((show_task(task), read_bench(show_bench(task[0]))), (text, task[0]))
            try:
                model = find_model(task)
            except TooMany:
                word = "too many"
                for ask in [lambda: Book(task), lambda: Desk(text), lambda: case_tree(task),
                            lambda: room_word(task, task)]:
                    self.assertRaises(TooMany, ask)
            else:
                word = "none" if model is None else "found"
                if model is None:
                    self.check_without_model(text, task)
                else:
                    self.check_model(text, task, model)
            seen[word] = seen.get(word, 0) + 1
        self.assertTrue(seen.get("none", 0) > 20 and seen.get("found", 0) > 40, seen)

    def check_without_model(self, text, task):
        tree = case_tree(task)
        self.assertIs(is_tree(task, tree), True)
        for ask in [lambda: Book(task), lambda: Desk(text)]:
            with self.assertRaises(Refused) as caught:
                ask()
            self.assertEqual(caught.exception.tree, tree)
        self.assertEqual(room_word(STILL, task), "never")
        self.assertNotIn(tuple(range(min(6, len(task[2])))), greatest_orders(task, tuple(range(min(6, len(task[2]))))))

    def check_model(self, text, task, model):
        self.assertIs(is_model(task, model), True)
        self.assertEqual((unserved_orders(task, model), case_tree(task), sum_fault(task)), ([], None, None))
        if len(samples.contents(task[0])) <= 12:
            self.assertIsNone(barring_cut(task, 2))
            self.assertIs(is_barring(task, ()), False)
        self.assertEqual(read_model(task, show_model(model)), model)
        self.assertIs(is_model(task, tight_model(task, model)), True)
        plan = plan_of(task, model)
        self.assertTrue(is_plan(task, plan) and keeps_task(task, plan) and plan[0] == rule_of(task, model))
        self.assertEqual((read_plan(task, show_plan(plan)), model_of(task, plan), broken_orders(task, plan)),
                         (plan, model, []))
        self.check_runs(task, plan)
        self.check_mending(task, plan)
        self.check_looks(task, model, plan)
        self.check_distances(task, plan)
        self.check_book_and_desk(text, task, model, plan)

    def check_runs(self, task, plan):
        """Whoever is killed at whichever moment: the bench comes to rest at one of the ends."""
        homes = homes_of(task, plan[0])
        for index, (start, goal, ends) in enumerate(task[2]):
            way = plan[1][index]
            player = played(task, plan, start, [("order", index)] + [STEP] * (len(way) - 1))
            self.assertEqual(player.ended_now(), [(index, goal)])
            for at in range(len(way) - 1):
                player = played(task, plan, start, [("order", index)] + [STEP] * at + [DIE])
                while player.order_now() is not None:
                    player.step()
                    if player.order_now() is not None:
                        player.die()
                self.assertEqual(player.rest_now(), homes[way[at]])
                self.assertIn(player.rest_now(), ends if at else (start,))

    def check_mending(self, task, plan):
        self.assertEqual(least_changes(task, plan, 2)[0], 0)
        for index in range(len(task[2])):
            way = way_by_rule(task, plan[0], index)
            self.assertTrue(way is not None and len(way) <= len(plan[1][index]))
        if plan[0]:
            lost = (plan[0][1:], plan[1])
            for index in broken_orders(task, lost):
                self.assertIs(is_story(task, lost, index, story_of(task, lost, index)), True)
                self.assertIsNone(first_break(task, lost, index)[1])
                self.assertIn(least_changes(task, lost, 1)[0], (0, 1))

    def check_looks(self, task, model, plan):
        depth, looks = least_looks(task, plan[0])
        for row in plan[0]:
            _, place, value = action_by(looks, row[0])
            self.assertEqual(row[0][:place] + (value,) + row[0][place + 1:], row[1])
        try:
            least, _, rule = least_rule(task, model, 100)
        except TooMany:
            return
        self.assertLessEqual(least, depth)
        self.assertEqual(model_of(task, (rule, plan[1])), model)
        self.assertGreaterEqual(len(rule), longest_home(task, model))

    def check_distances(self, task, plan):
        wrong = wrong_distance(task, plan)
        if wrong is not None:
            self.assertEqual(wrong_deeds_in(task, plan, wrong_story(task, plan)), wrong)
            self.assertIs(is_wrong_barrier(task, plan, wrong, wrong_barrier_of(task, plan)), True)
        late = late_told(task, plan)
        for situation in begin_situations(task):
            self.assertEqual({deed[0] for deed, _ in deeds_from(task, plan, situation)} <= {"order", "late"}, True)
        if late is not None:
            self.assertEqual(late_deeds_in(task, plan, late_story(task, plan)), late)
            self.assertIs(is_barrier(task, plan, late, barrier_of(task, plan)), True)
            self.assertTrue({(late, 0), (0, wrong)} <= set(breaking_pairs(task, plan)))
            self.assertEqual((bears(task, plan, late - 1, 0), bears(task, plan, late, 0)), (True, False))
            self.assertIsNone(mixed_story(task, plan, late - 1, 0))

    def check_book_and_desk(self, text, task, model, plan):
        book, desk = Book(task), Desk(text)
        self.assertEqual((book.task_now(), book.plan_now()), (task, plan))
        self.assertTrue(desk.book() == book)
        self.assertEqual("\n".join(desk.execute("task")), text)
        self.assertEqual("\n".join(desk.execute("plan")), show_plan(plan))
        for content in samples.contents(task[0]):
            home = home_of(task, plan[0], content)
            self.assertEqual(desk.execute("home " + "".join(str(v) for v in content)),
                             ["none" if home is None else "".join(str(v) for v in home)])
        room = str(room_of(task) - len(pairs_of(task))) if is_two_way(task[0]) else "none"
        self.assertEqual(desk.execute("room"), [room])
        for word, distance in [("late", late_told(task, plan)), ("wrong", wrong_distance(task, plan))]:
            self.assertEqual(desk.execute("distance " + word), ["none" if distance is None else str(distance)])
            number = 99 if distance is None else distance
            self.assertEqual(desk.execute(f"{word} {number}"), ["done"])
            if distance is not None:
                self.assertEqual(desk.execute(f"{word} {distance + 1}"), ["refused Broken"])
                self.assertRaises(Broken, lambda: book.do(("promise", (word, distance + 1))))
            book.do(("promise", (word, number)))
            self.assertTrue(desk.book() == book)
        for start, goal, _ in task[2]:
            line = "drop " + " ".join("".join(str(v) for v in rest) for rest in (start, goal))
            try:
                book.do(("drop", start, goal))
                expected = ["done"]
            except OnError as error:
                expected = ["refused " + type(error).__name__]
            self.assertEqual(desk.execute(line), expected)
            self.assertTrue(desk.book() == book and keeps_task(book.task_now(), book.plan_now()))
        while book.deeds_done():
            self.assertEqual((book.undo() is None, desk.execute("undo")), (False, ["done"]))
        self.assertEqual((book.task_now(), book.plan_now(), model_of(task, book.plan_now())), (task, plan, model))

    def test_two_tasks_and_a_log(self):
        task = read_task("slide 3\nrests 0 2\neither 0 2\neither 2 0")
        plan = plan_of(task, find_model(task))
        both = side_task(task, task)
        beside = side_plan(task, plan, task, plan)
        self.assertEqual(room_word(task, task), "alone")
        self.assertTrue(keeps_task(both, beside) and is_model(both, model_of(both, beside)))
        self.assertTrue(Book(both) == Desk(show_task(both)).book())
        couples = (((0,), (2,)),)
        many, layers = least_values(task[0], couples, 6)
        self.assertLessEqual(many, len(least_meeting(couples)) + 1)
        self.assertIs(bears_couples(task[0], couples, layers), True)
        logged = log_task(task[0], couples, many)
        self.assertIs(is_model(logged, lots_of_layers(task[0], layers)), True)
        self.assertTrue(Desk(show_task(logged)).book() == Book(logged))
        rests, model = any_to_any(task[0], 2)
        self.assertIs(is_model(with_orders((task[0], rests, ()), [(rests[0], rests[1], rests)]), model), True)

    def test_players_and_books_are_different_things(self):
        task = read_task("slide 3\nrests 0 2\neither 0 2")
        book = Book(task)
        player = Player(task, book.plan_now(), (0,))
        self.assertIs(book == player, False)
        self.assertIs(player == book, False)

    def test_numbers_of_any_greatness(self):
        task = read_task("slide 3\nrests 0 2\neither 0 2\neither 2 0")
        plan = plan_of(task, find_model(task))
        rest = (0,)
        for great in [2 ** 31, 2 ** 63 - 1, 2 ** 63, 10 ** 30, 10 ** 39]:
            for number in [great, -great]:
                for bench, content in [(((number, ()),), rest), (task[0], (number,)), (((3, ((0, number),)),), rest)]:
                    self.assertIs(is_task((bench, (content,), ())), False)
                self.assertIs(is_tree(task, ("order", number)), False)
                self.assertIs(is_story(task, plan, 0, [("order", number), STEP, DIE]), False)
                self.assertEqual(first_bad(task, plan, rest, [("order", number)]), 0)
                self.assertIsNone(late_deeds_in(task, plan, (rest, [("late", number, 0)])))
                self.assertIsNone(late_deeds_in(task, plan, (rest, [("late", 0, number)])))
                self.assertIsNone(wrong_deeds_in(task, plan, (rest, [("wrong", 0, number)])))
                self.assertIsNone(mixed_deeds_in(task, plan, (rest, [("wrong", number, 1)])))
                for situation in [(rest, number, -1), (rest, 0, number), (rest, number, number), ((number,), -1, -1)]:
                    self.assertIs(is_barrier(task, plan, 1, [(situation, 0)]), False)
                    self.assertIs(is_wrong_barrier(task, plan, great, [(situation, number)]), False)
                self.assertIsNone(looks_depth(task, plan[0], ("look", number, (("rest",),) * 3)))
                self.assertIsNone(looks_depth(task, plan[0], ("put", number, number)))
                self.assertIs(bears_couples(task[0], (), (((number,), None, None),)), False)
                self.assertRaises(NoIndex, lambda: Book(task).do(("free", number)))
                self.assertRaises(NoRest, lambda: Book(task).do(("rest", (number,))))
            self.assertIsNone(any_to_any(task[0], great))
            self.assertIs(bears(task, plan, great, great), False)
            self.assertIs(bears(task, plan, great, 0), False)
            self.assertIs(bears(task, plan, 0, great), False)
            self.assertIsNotNone(mixed_story(task, plan, great, great))
            self.assertRaises(Broken, lambda: Book(task).do(("promise", ("late", great))))
            self.assertRaises(NoCommand, lambda: Desk(show_task(task)).execute(f"late {great}"))
            self.assertRaises(NoText, lambda: Desk(f"free {great}\nrests 0"))

    def test_the_readme_tells_how_each_module_is_used(self):
        text = README.read_text(encoding="utf-8")
        for path in PACKAGE.glob("*.py"):
            if path.stem == "__init__":
                continue
            self.assertIn(f"`onorback.{path.stem}`", text)
            if path.stem not in ("lanes", "masks", "stories"):
                self.assertIn(f">>> from onorback.{path.stem} import ", text)


if __name__ == "__main__":
    unittest.main()
