"""[68] with [3], [4], [20], [21], [24], [41], [56], [59] and [67]: Desks, their deeds and questions."""

import random
import unittest
from itertools import product

from onorback.benches import is_two_way
from onorback.book import Book
from onorback.desk import Desk
from onorback.errors import NoCommand, NoReturn, NoText, OnError, Refused, TooMany, Wrong
from onorback.late import late_distance
from onorback.reader import read_plan, read_task
from onorback.sums import pairs_of, room_of
from onorback.texts import show_bench, show_plan, show_task
from onorback.wrong import wrong_distance
from tests import samples
from tests.test_book import CROWDED, LOST
from tests.thresholds import THRESHOLDS

TEXT = "free 2\nfree 2\nrests 00 11\neither 00 11"
LINE = "slide 6\nrests 0 4 5\neither 0 4\neither 4 0"


def shown(content):
    return "".join(str(value) for value in content)


class DeskTest(unittest.TestCase):
    def state(self, desk):
        book = desk.book()
        return repr([book.task_now(), book.plan_now(), book.promises_now(), book.deeds_done()])

    def no_command(self, desk, line):
        before = self.state(desk)
        with self.assertRaises(NoCommand, msg=line) as caught:
            desk.execute(line)
        self.assertEqual(vars(caught.exception), {})
        self.assertEqual(self.state(desk), before)

    def refused(self, desk, line, name):
        before = self.state(desk)
        self.assertEqual(desk.execute(line), ["refused " + name], line)
        self.assertEqual(self.state(desk), before)

    def done(self, desk, line, deed):
        """The line is done, and does what this deed of a Book does."""
        book = desk.book()
        book.do(deed)
        self.assertEqual(desk.execute(line), ["done"], line)
        self.assertTrue(desk.book() == book)
        self.assertEqual(desk.book().deeds_done(), book.deeds_done())

    def test_at_first(self):
        for text in [TEXT, LINE, "  # a task\nfree  2\n free 2 \n\nrests 00 11\neither 00 11"]:
            self.assertTrue(Desk(text).book() == Book(read_task(text)))
            self.assertEqual(Desk(text).book().deeds_done(), [])

    def test_errors_of_the_constructor(self):
        for text, line in [("", 1), ("free 2", 1), ("free 2\nrests 0 1\nrests 0", 2), ("free 7\nrests 0", 0),
                           ("free 2\nrests", 1), ("free 2\n\n#\nrests 0 1\neither 0 0", 4), ("free 2\n\n", 3), ("rests 0", 0)]:
            with self.assertRaises(NoText) as caught:
                Desk(text)
            self.assertEqual(vars(caught.exception), {"line": line})
        for thing in samples.odd_values():
            if not isinstance(thing, str):
                with self.assertRaises(Wrong) as caught:
                    Desk(thing)
                self.assertEqual(vars(caught.exception), {"place": 0})
        with self.assertRaises(Refused) as caught:
            Desk("slide 3\nrests 0 1 2\neither 0 2")
        self.assertEqual(caught.exception.tree, ("order", 0))
        for many, _, text in THRESHOLDS:
            if many > 1000:
                with self.assertRaises(TooMany) as caught:
                    Desk(text)
                self.assertEqual(vars(caught.exception), {"most": 1000})

    def test_lines_that_are_no_strings(self):
        desk = Desk(TEXT)
        for thing in samples.odd_values() + [["task"], ("task",)]:
            if isinstance(thing, str):
                self.no_command(desk, thing)
                continue
            with self.assertRaises(Wrong) as caught:
                desk.execute(thing)
            self.assertEqual(vars(caught.exception), {"place": 0})

    def test_each_deed_line(self):
        desk = Desk("free 2\nfree 2\nrests 00 11")
        self.done(desk, "rest 01", ("rest", (0, 1)))
        self.done(desk, "unrest 01", ("unrest", (0, 1)))
        for word, ends in [("either", ((0, 0), (1, 1))), ("on", ((1, 1),)), ("back", ((0, 0),))]:
            self.done(desk, word + " 00 11", ("order", (0, 0), (1, 1), ends))
            self.done(desk, "drop 00 11", ("drop", (0, 0), (1, 1)))
            turned = {"either": ends, "on": ((0, 0),), "back": ((1, 1),)}[word]
            self.done(desk, word + " 11 00", ("order", (1, 1), (0, 0), turned))
            self.done(desk, "drop 11 00", ("drop", (1, 1), (0, 0)))
        self.done(desk, "rest 01", ("rest", (0, 1)))
        self.done(desk, "order 00 01 to", ("order", (0, 0), (0, 1), ()))
        self.done(desk, "order 01 00 to 00 01 11", ("order", (0, 1), (0, 0), ((0, 0), (0, 1), (1, 1))))
        self.done(desk, "order 00 11 to 11", ("order", (0, 0), (1, 1), ((1, 1),)))
        self.done(desk, "wrong 1", ("promise", ("wrong", 1)))
        self.done(desk, "late 99", ("promise", ("late", 99)))
        self.assertEqual(desk.execute("promises"), ["wrong 1", "late 99"])
        self.done(desk, "free 1", ("free", 1))
        self.done(desk, "free 0", ("free", 0))
        deeds = desk.book().deeds_done()
        for _ in range(2):
            for k in range(len(deeds)):
                self.assertEqual(desk.execute("undo"), ["done"])
                self.assertEqual(desk.book().deeds_done(), deeds[:len(deeds) - k - 1])
            self.refused(desk, "undo", "Nothing")
            for k in range(len(deeds)):
                self.assertEqual(desk.execute("redo"), ["done"])
                self.assertEqual(desk.book().deeds_done(), deeds[:k + 1])
            self.refused(desk, "redo", "Nothing")

    def test_more_blanks(self):
        desk = Desk(TEXT)
        plain = ["rest 01", "on 00 01", "order 01 11 to 01", "task", "plan", "promises", "late 7", "free 0", "undo",
                 "redo", "home 10", "room", "distance late", "distance wrong", "drop 00 01", "drop 01 11", "unrest 01"]
        other = Desk(TEXT)
        for line in plain:
            wide = "  " + line.replace(" ", "    ") + "   "
            self.assertEqual(desk.execute(wide), other.execute(line), line)
            self.assertTrue(desk.book() == other.book())

    def test_lines_that_are_no_commands(self):
        desk = Desk(LINE)
        desk.execute("late 1")
        desk.execute("wrong 1")
        desk.execute("undo")
        for line in ["", " ", "#", "# task", "task #", "task\n", "\ntask", "task\nplan", "tasks", "Task", "TASK",
                     "task task", "plan 0", "promises 1", "promise late 1", "rest", "rest 1 2", "rest 6", "rest 00", "rest -1", "rest a",
                     "rest 1 ,", "rest 1#", "Rest 1", "unrest", "unrest 0 4", "unrest 6", "unrest 04", "either",
                     "either 0", "either 0 4 5", "either 0 6", "either 0 4 to", "either 0 4 to 0", "on 0", "on 0 4 4",
                     "on 7 4", "back 0", "back 0 4 5", "back 0 x", "order", "order 0 4", "order 0 to 4",
                     "order 0 4 To 4", "order 0 4 to to", "order 0 4 to 6", "order 0 4 4", "order to 0 4",
                     "order 0 4 0 to", "order 0 9 to", "order 0 4 5 to 0", "to 0 4", "drop", "drop 0", "drop 0 4 5",
                     "drop 0 6", "late", "late 0", "late 00", "late 01", "late 100", "late 1 1", "late -1", "late +1",
                     "late 1.", "late x", "Late 1", "late one", "late 1000000000000000000000000000000", "wrong",
                     "wrong 0", "wrong 07", "wrong 100", "wrong 1 2", "free", "free 00", "free 01", "free 100",
                     "free -1", "free x", "free 0 0", "undo 1", "undo undo", "undone", "redo 0", "Undo", "home",
                     "home 6", "home 00", "home 0 4", "home x", "Home 0", "room 1", "rooms", "distance",
                     "distance both", "distance Late", "distance late 1", "late distance", "distancelate", "quit",
                     "book", "execute", "rest\t1", "rest\n1", "step", "die", "plan\n", "0", "either 0 4\n", "\n",
                     "free 0\n", "late 1 #"]:
            self.no_command(desk, line)
        self.assertEqual(desk.execute("redo"), ["done"])

    def test_numbers(self):
        desk = Desk("slide 3\nrests 0 2")
        for number in range(1, 100):
            self.done(desk, f"late {number}", ("promise", ("late", number)))
        for number in [99, 100]:
            if number < 100:
                self.refused(desk, f"free {number}", "NoIndex")
            else:
                self.no_command(desk, f"free {number}")
        self.done(desk, "free 98", ("free", 98))
        self.done(desk, "free 0", ("free", 0))
        self.done(desk, "free 10", ("free", 10))
        self.assertEqual(desk.execute("promises"), [f"late {k}" for k in range(1, 100) if k not in (1, 99, 12)])
        self.no_command(desk, "late 0")
        self.refused(desk, "wrong 99", "Broken")

    def test_each_refusal(self):
        desk = Desk(LINE)
        for line, name in [("rest 0", "NoRest"), ("rest 5", "NoRest"), ("unrest 1", "NoRest"), ("unrest 0", "InUse"),
                           ("unrest 4", "InUse"),
                           ("either 0 4", "NoOrder"), ("on 0 4", "NoOrder"), ("either 0 0", "NoOrder"),
                           ("either 0 1", "NoOrder"), ("back 1 0", "NoOrder"), ("on 5 5", "NoOrder"),
                           ("order 0 5 to 4 0", "NoOrder"), ("order 0 5 to 0 0", "NoOrder"),
                           ("order 0 5 to 1", "NoOrder"), ("order 1 5 to", "NoOrder"), ("order 0 4 to", "NoOrder"),
                           ("drop 0 5", "NoOrder"), ("drop 1 2", "NoOrder"), ("drop 0 0", "NoOrder"),
                           ("free 0", "NoIndex"), ("free 99", "NoIndex"), ("undo", "Nothing"), ("redo", "Nothing"),
                           ("rest 2", "Refused"), ("either 0 5", "Refused"), ("late 2", "Broken"),
                           ("wrong 2", "Broken")]:
            self.refused(desk, line, name)
        self.assertEqual(Desk("free 2\nrests 0").execute("unrest 0"), ["refused NoRest"])
        for told, deed in LOST + CROWDED:
            text = told + "\n"
            desk = Desk(text)
            words = {"order": lambda: "order {} {} to {}".format(shown(deed[1]), shown(deed[2]),
                                                                 " ".join(shown(e) for e in deed[3])),
                     "rest": lambda: "rest " + shown(deed[1]), "unrest": lambda: "unrest " + shown(deed[1]),
                     "drop": lambda: f"drop {shown(deed[1])} {shown(deed[2])}"}
            self.refused(desk, words[deed[0]](), "TooMany" if (told, deed) in CROWDED else "Refused")

    def test_questions(self):
        rng = random.Random(231)
        seen = {"two-way": 0, "one-way": 0, "no late": 0, "late": 0, "no wrong": 0, "wrong": 0, "no home": 0, "home": 0}
        for k in range(240):
            task = samples.strung_task(rng) if k % 3 == 0 else samples.random_task(rng, None, 9) if k % 3 == 1 else \
                samples.sturdy_kept(rng)[0]
            text = show_task(task)
            try:
                desk = Desk(text)
            except OnError:
                continue
            before = self.state(desk)
            plan = desk.book().plan_now()
            self.assertEqual(desk.execute("task"), text.split("\n"))
            lines = show_plan(plan)
            self.assertEqual(desk.execute("plan"), lines.split("\n") if lines else [])
            self.assertEqual(desk.execute("promises"), [])
            self.assertEqual(read_task("\n".join(desk.execute("task"))), task)
            self.assertEqual(read_plan(task, "\n".join(desk.execute("plan"))), plan)
            homes = samples.homes_by(task, plan[0])
            for content in samples.contents(task[0]):
                home = homes[content]
                self.assertEqual(desk.execute("home " + shown(content)), ["none" if home is None else shown(home)])
                seen["no home" if home is None else "home"] += 1
            room = str(room_of(task) - len(pairs_of(task))) if is_two_way(task[0]) else "none"
            self.assertEqual(desk.execute("room"), [room])
            seen["one-way" if room == "none" else "two-way"] += 1
            try:
                late = late_distance(task, plan)
            except NoReturn:
                late = None
            self.assertEqual(desk.execute("distance late"), ["none" if late is None else str(late)])
            seen["no late" if late is None else "late"] += 1
            wrong = wrong_distance(task, plan)
            self.assertEqual(desk.execute("distance wrong"), ["none" if wrong is None else str(wrong)])
            seen["no wrong" if wrong is None else "wrong"] += 1
            self.assertEqual(self.state(desk), before)
        self.assertGreater(min(seen[key] for key in seen if key != "no wrong"), 10, seen)

    def test_a_distance_that_there_is_not(self):
        # An order that does not come back, and no order at all.
        desk = Desk("free 2\nrests 0 1\non 0 1")
        self.assertEqual((desk.execute("distance late"), desk.execute("distance wrong")), (["none"], ["1"]))
        # From one rest alone the search leads no other content home, so that there is always a wrong distance.
        desk = Desk("free 2\nrests 0")
        self.assertEqual((desk.execute("distance late"), desk.execute("distance wrong")), (["none"], ["1"]))
        self.assertEqual((desk.execute("plan"), desk.execute("home 1"), desk.execute("home 0")), ([], ["none"], ["0"]))
        self.assertEqual(desk.execute("room"), ["0"])
        self.assertEqual(Desk("rise 3\nrests 0 2\non 0 2").execute("room"), ["none"])
        self.assertEqual(Desk(TEXT).execute("room"), ["1"])
        desk = Desk("slide 6\nrests 0")
        self.assertEqual(desk.execute("late 99"), ["done"])
        self.assertEqual(desk.execute("promises"), ["late 99"])

    def test_the_book_is_a_copy(self):
        desk = Desk(LINE)
        desk.execute("late 1")
        desk.execute("undo")
        book = desk.book()
        self.assertIsInstance(book, Book)
        self.assertEqual(book.redo(), ("promise", ("late", 1)))
        self.assertEqual(desk.execute("promises"), [])
        book.undo()
        book.do(("unrest", (5,)))
        self.assertEqual(desk.execute("task"), LINE.split("\n"))
        self.assertEqual(desk.execute("redo"), ["done"])
        self.assertEqual(desk.execute("promises"), ["late 1"])
        self.assertEqual(book.promises_now(), [])

    def test_lines_led_at_random(self):
        rng = random.Random(232)
        seen = {}
        for _ in range(30):
            bench = (samples.random_place(rng, rng.randint(2, 6)),)
            desk = Desk(show_bench(bench) + "\nrests 0")
            contents = [shown(content) for content in samples.contents(bench)]
            for _ in range(40):
                one, other, third = [rng.choice(contents) for _ in range(3)]
                line = rng.choice([f"rest {one}", f"unrest {one}", f"either {one} {other}", f"on {one} {other}",
                                   f"back {one} {other}",
                                   f"order {one} {other} to {third}", f"order {one} {other} to", f"drop {one} {other}",
                                   "late 1", "wrong 1", f"late {rng.randint(1, 4)}", "free 0", "free 1", "undo", "redo",
                                   "undo"])
                book = desk.book()
                words = line.split(" ")
                try:
                    self.do(book, words)
                    expected = ["done"]
                except OnError as error:
                    expected = ["refused " + type(error).__name__]
                self.assertEqual(desk.execute(line), expected)
                self.assertTrue(desk.book() == book)
                self.assertEqual(desk.book().deeds_done(), book.deeds_done())
                seen[expected[0]] = seen.get(expected[0], 0) + 1
        self.assertGreaterEqual(set(seen), {"done"} | {"refused " + name for name in
                                                        ["NoRest", "InUse", "NoOrder", "NoIndex", "Nothing", "Broken"]},
                                                        seen)

    def do(self, book, words):
        head, rest = words[0], words[1:]
        if head in ("undo", "redo"):
            getattr(book, head)()
        elif head in ("late", "wrong"):
            book.do(("promise", (head, int(rest[0]))))
        elif head == "free":
            book.do(("free", int(rest[0])))
        else:
            contents = [tuple(int(sign) for sign in word) for word in rest if word != "to"]
            if head == "order":
                book.do(("order", contents[0], contents[1], tuple(contents[2:])))
            elif head in ("either", "on", "back"):
                start, goal = contents
                ends = {"either": tuple(sorted(contents)), "on": (goal,), "back": (start,)}[head]
                book.do(("order", start, goal, ends))
            else:
                book.do((head, *contents))

    def test_answers_may_be_changed(self):
        desk = Desk(LINE)
        desk.execute("late 1")
        for line, many in product(["task", "plan", "promises", "room", "home 0", "distance late", "distance wrong"],
                                  range(2)):
            answer = desk.execute(line)
            self.assertIs(type(answer), list)
            expected = list(answer)
            answer.clear()
            self.assertEqual(desk.execute(line), expected, many)


if __name__ == "__main__":
    unittest.main()
