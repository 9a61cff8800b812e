"""[21] with [3], [4] and [16]: many texts read one after the other by a task, and by tasks like it."""

import random
import unittest

from onorback.benches import either_order, free_place
from onorback.errors import NoText, Wrong
from onorback.forms import is_task
from onorback.models import plan_of, unserved_orders
from onorback.reader import read_model, read_plan
from onorback.texts import show_model, show_plan
from tests import reference, samples

SIX = free_place(6)
RESTS = ((0, 0), (0, 1), (1, 0), (2, 3), (4, 4), (5, 5))
ORDERS = tuple(either_order(RESTS[k], RESTS[k + 1]) for k in range(5))
TASK = ((SIX, SIX), RESTS, ORDERS)


def said(text):
    """The indexes and words of the lines that say something."""
    for index, line in enumerate(text.split("\n")):
        words = line.split()
        if words and words[0][0] != "#":
            yield index, words


def told_contents(bench, words):
    table = {"".join(map(str, content)): content for content in samples.contents(bench)}
    return tuple(table.get(word) for word in words)


def plain_plan(task, steps, text):
    """The plan that a text writes, or the line at which it is bad."""
    bench, rests, orders = task
    rows, ways = [], []
    for index, (word, *others) in said(text):
        contents = told_contents(bench, others)
        pairs = list(zip(contents, contents[1:]))
        if None in contents or any(pair not in steps for pair in pairs) or not pairs:
            return index
        if word == "row" and ways == [] and len(contents) == 2 and contents[0] not in rests:
            rows.append(contents)
            if sorted({row[0] for row in rows}) != [row[0] for row in rows]:
                return index
        elif word == "way" and [(contents[0], contents[-1])] == [order[:2] for order in orders[len(ways):len(ways) + 1]]:
            ways.append(contents)
        else:
            return index
    return (tuple(rows), tuple(ways)) if len(ways) == len(orders) else text.count("\n") + 1


def plain_model(task, steps, text):
    """The model that a text writes, or the line at which it is bad."""
    lots = []
    for index, (word, *others) in said(text):
        lot = told_contents(task[0], others)
        rest = task[1][len(lots)] if len(lots) < len(task[1]) else None
        above = [content for one in lots for content in one]
        if word != "lot" or rest is None or None in lot or list(lot) != sorted(set(lot)) or set(lot) & set(above):
            return index
        if [content for content in lot if content in task[1]] != [rest]:
            return index
        lots.append(lot)
    return tuple(lots) if reference.is_model(task, tuple(lots)) else text.count("\n") + 1


def read(by, task, text):
    try:
        return by(task, text)
    except NoText as error:
        return error.line


def bent(rng, text):
    """The text with a change at one place."""
    at = rng.randrange(len(text))
    kind = rng.randrange(4)
    if kind == 3:
        lines = text.split("\n")
        k = rng.randrange(len(lines))
        return "\n".join(lines[:k] + rng.choice([[], [lines[k]] * 2, ["# " + lines[k]], lines[k + 1:k + 2]]) + lines[k + 1:])
    sign = rng.choice("0123456789 #\nrowaylt")
    return [text[:at] + text[at + 1:], text[:at] + sign + text[at:], text[:at] + sign + text[at + 1:]][kind]


def modelled(rng, task):
    """A plan and a model of some orders of a task, with the task of these orders alone."""
    lots = samples.random_lots(rng, task)
    gone = unserved_orders(task, lots)
    task = (task[0], task[1], tuple(order for k, order in enumerate(task[2]) if k not in gone))
    return task, plan_of(task, lots), lots


class ManyReadingsTest(unittest.TestCase):
    def rows(self, rng, task, many):
        """Texts, with the reader for each, the task, and what is read."""
        steps = set(reference.steps(task[0]))
        made, plan, lots = modelled(rng, task)
        found = []
        for k in range(many):
            for by, plain, text in [(read_plan, plain_plan, show_plan(plan)), (read_model, plain_model, show_model(lots))]:
                told = bent(rng, text) if k and text else text
                found.append((by, made, told, plain(made, steps, told)))
        return found

    def test_tens_of_thousands(self):
        self.assertTrue(is_task(TASK))
        rng = random.Random(141)
        rows = [row for _ in range(10) for row in self.rows(rng, TASK, 20)]
        good = sum(type(expected) is tuple for *_, expected in rows)
        self.assertTrue(30 < good < len(rows) - 200, good)
        for _ in range(60):
            for by, task, text, expected in rows:
                if read(by, task, text) != expected:
                    self.assertEqual(read(by, task, text), expected, (task, text))

    def test_ordinary_tasks(self):
        rng = random.Random(142)
        for _ in range(60):
            task = rng.choice([samples.random_task, samples.crowded_task, samples.knotty_task])(rng)
            for by, made, text, expected in self.rows(rng, task, 12):
                self.assertEqual(read(by, made, text), expected, (made, text))
                self.assertEqual(repr(read(by, made, text)), repr(expected))

    def test_each_call_judges_its_task(self):
        rng = random.Random(143)
        rows = self.rows(rng, TASK, 2)
        wrong = list(samples.as_truths(TASK))
        wrong += [task for task in samples.bends(TASK) if rng.random() < 0.1 and not reference.is_task(task)]
        for task in wrong:
            by, made, text, expected = rng.choice(rows)
            for thing in [text, None]:
                with self.assertRaises(Wrong) as caught:
                    by(task, thing)
                self.assertEqual(vars(caught.exception), {"place": 0})
            with self.assertRaises(Wrong) as caught:
                by(made, [text])
            self.assertEqual(vars(caught.exception), {"place": 1})
            self.assertEqual(read(by, made, text), expected)


if __name__ == "__main__":
    unittest.main()
