"""[20]: texts that are shown."""

import random
import unittest

from onorback.benches import dial_place, free_place, rise_place, slide_place
from onorback.texts import show_bench, show_model, show_plan, show_task
from tests import samples


def plain_line(word, contents):
    return word + "".join(" " + "".join(str(value) for value in content) for content in contents)


class TextsTest(unittest.TestCase):
    def test_words_of_places(self):
        for place, line in [
            (free_place(2), "free 2"), (slide_place(2), "free 2"), (rise_place(2), "rise 2"), (dial_place(3), "free 3"),
            (slide_place(3), "slide 3"), (rise_place(3), "rise 3"), (dial_place(4), "dial 4"), (free_place(6), "free 6"),
            (slide_place(6), "slide 6"), (dial_place(6), "dial 6"), (rise_place(6), "rise 6"), ((2, ()), "place 2"),
            ((6, ()), "place 6"), ((2, ((1, 0),)), "place 2 1>0"), ((3, ((0, 2), (2, 0))), "place 3 0>2 2>0"),
        ]:
            self.assertEqual(show_bench((place,)), line)
            self.assertEqual(show_bench((place, place)), line + "\n" + line)

    def test_orders_of_every_sort(self):
        a, b, c = (0, 0), (0, 1), (1, 1)
        orders = ((a, b, ()), (a, c, (a, c)), (b, a, (a, b)), (b, c, (b,)), (c, a, (a,)), (c, b, (a, b, c)))
        self.assertEqual(
            show_task((samples.BITS, (a, b, c), orders)),
            "free 2\nfree 2\nrests 00 01 11\norder 00 01 to\neither 00 11\neither 01 00\nback 01 11\non 11 00\n"
            "order 11 01 to 00 01 11",
        )
        self.assertEqual(show_task((((2, ()),), ((1,),), ())), "place 2\nrests 1")

    def test_plans_and_models(self):
        plan = ((((0, 1), (0, 0)), ((1, 0), (1, 1))), (((0, 0), (1, 0), (1, 1)), ((1, 1), (0, 1))))
        self.assertEqual(show_plan(plan), "row 01 00\nrow 10 11\nway 00 10 11\nway 11 01")
        self.assertEqual(show_plan(((), ())), "")
        self.assertEqual(show_plan(((), (((0,), (1,)),))), "way 0 1")
        self.assertEqual(show_plan(((((1,), (0,)),), ())), "row 1 0")
        self.assertEqual(show_model((((0, 0, 5), (0, 1, 0)), ((1, 1, 1),))), "lot 005 010\nlot 111")

    def test_ordinary_ones(self):
        rng = random.Random(9)
        for _ in range(40):
            task, plan = samples.random_planned(rng)
            lines = [plain_line("row", row) for row in plan[0]] + [plain_line("way", way) for way in plan[1]]
            self.assertEqual(show_plan(plan), "\n".join(lines))
            lines = show_task(task).split("\n")
            many = len(task[0])
            self.assertEqual("\n".join(lines[:many]), show_bench(task[0]))
            self.assertEqual(lines[many], plain_line("rests", task[1]))
            for (start, goal, ends), line in zip(task[2], lines[many + 1:]):
                words = {(goal,): "on", (start,): "back", tuple(sorted([start, goal])): "either"}
                shown = plain_line(words.get(ends, "order"), (start, goal))
                self.assertEqual(line, shown if ends in words else shown + " " + plain_line("to", ends))
            lots = samples.random_lots(rng, task)
            self.assertEqual(show_model(lots), "\n".join(plain_line("lot", lot) for lot in lots))


if __name__ == "__main__":
    unittest.main()
