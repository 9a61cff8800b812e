"""[21] with [R] of [4]: texts that are read."""

import random
import unittest

from onorback.benches import dial_place, free_place, rise_place, slide_place
from onorback.errors import NoText, Wrong
from onorback.forms import is_model
from onorback.reader import read_bench, read_model, read_plan, read_task
from onorback.texts import show_bench, show_model, show_plan, show_task
from tests import samples

A, B, C = (0, 0), (0, 1), (1, 1)
HEAD = "free 2\nfree 2\nrests 00 01 11\n"
TASK = (samples.BITS, (A, C), ((A, C, (A, C)), (C, A, (A,))))
LINE = ((samples.SLIDE,), ((0,), (2,)), (((0,), (2,), ((0,),)),))


def loosened(rng, text):
    """The text with more blanks, and lines that say nothing, with a list of the new indexes of its lines."""
    lines = []
    indexes = []
    for line in text.split("\n"):
        while rng.random() < 0.3:
            lines.append(rng.choice(["", " ", "   ", "#", "# free 2", "  #rests", "#way 0"]))
        indexes.append(len(lines))
        gap = " " * rng.randint(1, 3)
        lines.append(" " * rng.randrange(3) + gap.join(line.split(" ")) + " " * rng.randrange(3))
    if rng.random() < 0.3:
        lines.append("")
    return "\n".join(lines), indexes


class ReaderTest(unittest.TestCase):
    def bad(self, read, text, line):
        with self.assertRaises(NoText) as caught:
            read(text)
        self.assertEqual(caught.exception.line, line, text)
        self.assertIs(type(caught.exception.line), int)

    def test_what_is_shown_is_read(self):
        rng = random.Random(10)
        for _ in range(60):
            task, plan = samples.random_planned(rng)
            self.assertEqual(read_bench(show_bench(task[0])), task[0])
            self.assertEqual(read_task(show_task(task)), task)
            self.assertEqual(read_plan(task, show_plan(plan)), plan)
            self.assertEqual(read_task(loosened(rng, show_task(task))[0]), task)
            self.assertEqual(read_plan(task, "\n".join(loosened(rng, show_plan(plan))[0].split("\n"))), plan)
            self.assertEqual(read_bench(loosened(rng, show_bench(task[0]))[0]), task[0])

    def test_models_are_read(self):
        rng = random.Random(11)
        models = 0
        for _ in range(120):
            task, lots = samples.random_lotted(rng)
            text = loosened(rng, show_model(lots))[0]
            if is_model(task, lots):
                models += 1
                self.assertEqual(read_model(task, text), lots)
                self.assertEqual(read_model(task, show_model(lots)), lots)
            else:
                self.bad(lambda told: read_model(task, told), text, text.count("\n") + 1)
        self.assertGreater(models, 20)

    def test_any_word_that_fits(self):
        self.assertEqual(read_bench("slide 2\nrise 2\nplace 2 0>1 1>0\nplace 2"),
                         (free_place(2), rise_place(2), free_place(2), (2, ())))
        self.assertEqual(read_bench("dial 3\ndial 6\nplace 3 0>1 1>2"), (free_place(3), dial_place(6), (3, ((0, 1), (1, 2)))))
        self.assertEqual(read_bench("slide 6\nfree 6\nplace 6 0>5"), (slide_place(6), free_place(6), (6, ((0, 5),))))
        told = read_task(HEAD + "order 00 01 to 00 01\norder 00 11 to 11\norder 01 00 to 01\norder 01 11 to")
        self.assertEqual(told, (samples.BITS, (A, B, C), ((A, B, (A, B)), (A, C, (C,)), (B, A, (B,)), (B, C, ()))))

    def test_lines_that_say_nothing(self):
        self.assertEqual(read_bench("\n # free 3\n  free   2  \n#\n   "), (free_place(2),))
        self.assertEqual(read_task("#\n\nfree 2\n#\nrests 0\n#"), ((free_place(2),), ((0,),), ()))
        self.assertEqual(read_plan((samples.BITS, (A,), ()), ""), ((), ()))
        self.assertEqual(read_plan((samples.BITS, (A,), ()), "\n #row\n"), ((), ()))

    def test_bad_places(self):
        for line in ["free", "free 1", "free 7", "free 02", "free 23", "free 2 2", "free 2 #", "free 2#", "free two",
                     "dial 2", "dial", "dial 7", "slide 3 0>1", "rise 12", "place", "place 7", "place 1", "place 2 01",
                     "place 2 0>2", "place 2 0>0", "place 2 1>0 0>1", "place 2 0>1 0>1", "place 2 0>1 #", "place 3 0>1,",
                     "place 2 0 > 1", "place 2 00>1", "place 2 0>", "place 2 >", "place x", "place 2 0<1", "place 2 -1>0",
                     "Free 2", "rests 0", "either 0 1", "row 0 1", "way 0 1", "lot 0", "2", "free2", "place 9 0>8",
                     "free\t2", "- free 2", "free 2 0>1 1>0"]:
            self.bad(read_bench, line, 0)
            self.bad(read_bench, "free 2\n\n" + line + "\nfree 9", 2)
            if not line.startswith("rests"):
                self.bad(read_task, "#\nfree 2\n" + line + "\nfree 9\nrests 0", 2)

    def test_bad_rests(self):
        for line in ["rests", "rests 0", "rests 000", "rests 02", "rests 11 00", "rests 00 00", "rests 00 1 1",
                     "rests 00 #", "rests 00,11", "rests 0x", "rest 00", "either 00 11", "place 00"]:
            self.bad(read_task, "free 2\nfree 2\n" + line + "\nbad", 2)
        self.bad(read_task, "rests 0\nfree 2", 0)
        self.bad(read_task, "rests\nfree 2", 0)

    def test_bad_orders(self):
        for line in ["either 00", "either 00 00", "either 00 10", "either 00 11 01", "on 00 0", "on", "back 00 22",
                     "order 00 11", "order 00 11 00", "order 00 11 to 10", "order 00 11 to 11 00", "order 00 11 to 00 00",
                     "order 00 11 to to", "order 00 11 11 to", "order 00 00 to", "order to 00 11", "order", "order 00",
                     "free 2", "rests 00 01 11", "both 00 11", "either 00 11 #", "on 00 11 to", "to"]:
            self.bad(read_task, HEAD + line + "\nbad", 3)
            self.bad(read_task, HEAD + "on 00 01\n\n" + line, 5)
        for line in ["on 00 01", "order 00 11 to", "either 00 11", "back 00 01"]:
            self.bad(read_task, HEAD + "on 00 11\n" + line, 4)
        self.bad(read_task, HEAD + "on 00 01\non 01 00\non 00 11", 5)
        self.bad(read_task, HEAD + "on 00 01\non 01 00\non 01 00", 5)
        self.assertEqual(len(read_task(HEAD + "on 00 11\non 01 00\non 01 11\non 11 00\non 11 01")[2]), 5)

    def test_what_lacks(self):
        self.bad(read_bench, "", 1)
        self.bad(read_bench, "\n\n# free 2", 3)
        self.bad(read_task, "", 1)
        self.bad(read_task, "free 2", 1)
        self.bad(read_task, "free 2\nfree 2\n", 3)
        self.bad(lambda text: read_plan(TASK, text), "", 1)
        self.bad(lambda text: read_plan(TASK, text), "row 01 00\n\nway 00 01 11\n", 4)
        self.bad(lambda text: read_model(TASK, text), "lot 00 01\n", 2)
        self.bad(lambda text: read_model(TASK, text), "", 1)

    def test_bad_plans(self):
        def read(text):
            return read_plan(TASK, text)
        ways = "\nway 00 01 11\nway 11 01 00"
        self.assertEqual(read("row 01 00\nrow 10 00" + ways)[0], ((B, A), ((1, 0), A)))
        for line in ["row 01", "row 01 00 01", "row 01 10", "row 01 01", "row 00 01", "row 11 10", "row 01 0", "row",
                     "row 01 00 #", "lot 01 00", "rows 01 00", "way 11 01 00", "way", "way 00", "way 00 11",
                     "way 00 00 01 11", "way 00 01", "way 01 11", "way 00 01 1", "free 2"]:
            self.bad(read, "#\n" + line + ways, 1)
        self.bad(read, "row 10 00\nrow 01 00" + ways, 1)
        self.bad(read, "row 10 00\nrow 10 11" + ways, 1)
        self.bad(read, "way 00 01 11\nrow 01 00\nway 11 01 00", 1)
        self.bad(read, "way 00 01 11\nway 00 01 11", 1)
        self.bad(read, ways + "\nway 11 01 00", 3)
        self.bad(lambda text: read_plan((samples.BITS, (A,), ()), text), "way 00 01", 0)

    def test_bad_models(self):
        def read(text):
            return read_model(TASK, text)
        self.assertEqual(read("lot 00 01\n\nlot 11"), ((A, B), (C,)))
        for line in ["lot", "lot 01", "lot 00 11", "lot 01 00", "lot 00 00", "lot 00 02", "lot 00 0", "lot 00 #", "lots 00",
                     "way 00 01", "lot 11"]:
            self.bad(read, " \n" + line + "\nlot 11", 1)
        self.bad(read, "lot 00 01\nlot 01 11", 1)
        self.bad(read, "lot 00 01\nlot 00 11", 1)
        self.bad(read, "lot 00 01\nlot 11\nlot 10", 2)

    def test_lots_that_are_no_model(self):
        rise = ((2, ((0, 1),)), (2, ((0, 1),)))
        text = "lot 00 11\n"
        self.bad(lambda told: read_model((rise, (A,), ()), told), "lot 00 11", 1)
        self.bad(lambda told: read_model((rise, (A,), ()), told), "lot 00 01", 1)
        self.assertEqual(read_model((rise, (C,), ()), "lot 01 11"), ((B, C),))
        self.bad(lambda told: read_model(TASK, told), "lot 00\nlot 11\n", 3)
        self.bad(lambda told: read_model((rise, (A,), ()), told), text, 2)

    def test_large_benches(self):
        for many in [7, 300]:
            bench = (free_place(2),) * many
            first, other, last = "0" * many, "0" * (many - 1) + "1", "0" * (many - 2) + "11"
            a, b, c = [tuple(map(int, word)) for word in (first, other, last)]
            task = (bench, (a, c), ((a, c, (a, c)), (c, a, (c,))))
            rows = f"row {other} {first}\nway {first} {other} {last}\nway {last} {other} {first}"
            self.assertEqual(read_plan(task, rows), (((b, a),), ((a, b, c), (c, b, a))))
            self.assertEqual(read_model(task, f"lot {first}\n\nlot {other}  {last}"), ((a,), (b, c)))
            for text, line in [(f"lot {first} {other}\nlot {last}", 2), (f"lot {first}\nlot {other}0 {last}", 1),
                               (f"lot {first}\nlot {last}", 2), (f"lot {first}\nlot {other} {last} {'1' * many}", 2)]:
                self.bad(lambda told: read_model(task, told), text, line)
            for text, line in [("", 1), (rows + "0", 2), (rows.replace("row", "Row"), 0), (rows[:-many], 2)]:
                self.bad(lambda told: read_plan(task, told), text, line)

    def test_lines_that_are_bent(self):
        rng = random.Random(12)
        for _ in range(40):
            task, plan = samples.random_planned(rng)
            for text, read in [(show_bench(task[0]), read_bench), (show_task(task), read_task),
                               (show_plan(plan), lambda told: read_plan(task, told))]:
                if text == "":
                    continue
                lines = text.split("\n")
                at = rng.randrange(len(lines))
                lines[at] = rng.choice([lines[at] + " 9", lines[at] + " #", "x" + lines[at], lines[at].upper(), "to"])
                loose, indexes = loosened(rng, "\n".join(lines))
                self.bad(read, loose, indexes[at])

    def test_wrong_arguments(self):
        for thing in samples.odd_values():
            if not isinstance(thing, str):
                for read in [read_bench, read_task]:
                    with self.assertRaises(Wrong) as caught:
                        read(thing)
                    self.assertEqual(caught.exception.place, 0)
            for read in [read_plan, read_model]:
                for text in ["", "bad", 5]:
                    with self.assertRaises(Wrong) as caught:
                        read(thing, text)
                    self.assertEqual(caught.exception.place, 0)
                if not isinstance(thing, str):
                    with self.assertRaises(Wrong) as caught:
                        read(TASK, thing)
                    self.assertEqual(caught.exception.place, 1)

    def test_bent_tasks_are_wrong(self):
        for bent in samples.as_truths(TASK):
            for read in [read_plan, read_model]:
                with self.assertRaises(Wrong) as caught:
                    read(bent, "")
                self.assertEqual(caught.exception.place, 0)

    def test_texts_of_any_signs(self):
        rng = random.Random(13)
        signs = [chr(code) for code in range(32, 127)] + ["\n"] * 20
        for _ in range(200):
            text = "".join(rng.choice(signs) for _ in range(rng.randrange(60)))
            for read in [read_bench, read_task]:
                with self.assertRaises(NoText) as caught:
                    read(text)
                self.assertTrue(0 <= caught.exception.line <= text.count("\n") + 1)

    def test_asked_again(self):
        text = show_task(LINE)
        self.assertEqual(read_task(text), read_task(text))
        self.assertEqual(read_model(LINE, "lot 0 1\nlot 2"), read_model(LINE, "lot 0 1\nlot 2"))


if __name__ == "__main__":
    unittest.main()
