"""[25] with the runs of [5], [R] and the order of errors of [4], and [3]."""

import random
import unittest

from onorback.benches import free_place
from onorback.errors import BadDeed, NoIndex, NotStart, Nothing, Stuck, UnderWay, Wrong
from onorback.player import Player, first_bad, played
from tests import reference, samples

STEP, DIE = ("step",), ("die",)

# One free place of six values; the ways pass rests, and the first one comes to its start and goal again.
BENCH = (free_place(6),)
A, B, C, X, Y, Z = [(k,) for k in range(6)]
TASK = (BENCH, (A, B, C), ((A, B, (A, B)), (A, C, ()), (B, A, (C,)), (C, A, (A, B, C))))
RULE = ((X, Y), (Y, B))
WAYS = ((A, X, A, C, B, Y, B), (A, C), (B, Z, A), (C, X, B, X, A))
PLAN = (RULE, WAYS)
ROUND = (((X, Y), (Y, X)), WAYS)


class PlayerTest(unittest.TestCase):
    def seen(self, player):
        now = [player.content_now(), player.order_now(), player.at_now(), player.rest_now(), player.ended_now()]
        return now + [player.deeds_done()]

    def refuses(self, player, error, fields, deed):
        before = self.seen(player)
        with self.assertRaises(error) as caught:
            deed()
        self.assertIs(type(caught.exception), error)
        self.assertEqual(vars(caught.exception), fields)
        self.assertEqual(self.seen(player), before)

    def test_at_first(self):
        for rest in TASK[1]:
            self.assertEqual(self.seen(Player(TASK, PLAN, rest)), [rest, None, None, rest, [], []])

    def test_a_first_hand_that_does_not_die(self):
        player = Player(TASK, PLAN, A)
        self.assertIsNone(player.order(0))
        self.assertEqual(self.seen(player), [A, 0, 0, A, [], [("order", 0)]])
        for k in range(1, 6):
            self.assertEqual(player.step(), (WAYS[0][k - 1], WAYS[0][k]))
            self.assertEqual(self.seen(player)[:5], [WAYS[0][k], 0, k, A, []])
        self.assertEqual(player.step(), (Y, B))
        self.assertEqual(self.seen(player), [B, None, None, B, [(0, B)], [("order", 0)] + [STEP] * 6])

    def test_a_way_of_one_step(self):
        player = played(TASK, PLAN, A, [("order", 1), STEP])
        self.assertEqual(self.seen(player)[:5], [C, None, None, C, [(1, C)]])

    def test_it_dies_ahead_of_its_first_step(self):
        player = played(TASK, PLAN, A, [("order", 1), DIE])
        self.assertEqual(self.seen(player)[:5], [A, None, None, A, [(1, A)]])

    def test_it_dies_at_a_rest_amid(self):
        player = played(TASK, PLAN, A, [("order", 0), STEP, STEP, DIE])
        self.assertEqual(self.seen(player)[:5], [A, None, None, A, [(0, A)]])
        player = played(TASK, PLAN, A, [("order", 0), STEP, STEP, STEP, DIE])
        self.assertEqual(self.seen(player)[:5], [C, None, None, C, [(0, C)]])
        player = played(TASK, PLAN, A, [("order", 0), STEP, STEP, STEP, STEP, DIE])
        self.assertEqual(self.seen(player)[:5], [B, None, None, B, [(0, B)]])

    def test_next_hands(self):
        player = played(TASK, PLAN, A, [("order", 0), STEP, DIE])
        self.assertEqual(self.seen(player)[:5], [X, 0, None, A, []])
        self.assertEqual(player.step(), (X, Y))
        self.assertIsNone(player.die())
        self.assertIsNone(player.die())
        self.assertEqual(self.seen(player)[:5], [Y, 0, None, A, []])
        self.assertEqual(player.step(), (Y, B))
        done = [("order", 0), STEP, DIE, STEP, DIE, DIE, STEP]
        self.assertEqual(self.seen(player), [B, None, None, B, [(0, B)], done])
        self.assertIsNone(player.order(2))
        self.assertEqual(player.rest_now(), B)

    def test_a_stuck_bench(self):
        player = played(TASK, PLAN, B, [("order", 2), STEP, DIE])
        for _ in range(2):
            self.refuses(player, Stuck, {"content": Z}, player.step)
        self.assertIsNone(player.die())
        self.refuses(player, Stuck, {"content": Z}, player.step)
        self.refuses(player, UnderWay, {"index": 2}, lambda: player.order(0))

    def test_a_first_hand_needs_no_row(self):
        player = played(TASK, PLAN, B, [("order", 2), STEP])
        self.assertEqual(player.step(), (Z, A))

    def test_rows_that_lead_round(self):
        player = played(TASK, ROUND, A, [("order", 0), STEP, DIE] + [STEP] * 100)
        self.assertEqual(self.seen(player)[:5], [X, 0, None, A, []])

    def test_nothing_under_way(self):
        player = Player(TASK, PLAN, A)
        for deed in [player.step, player.die, player.undo]:
            self.refuses(player, Nothing, {}, deed)
        player = played(TASK, PLAN, A, [("order", 1), STEP])
        for deed in [player.step, player.die]:
            self.refuses(player, Nothing, {}, deed)

    def test_no_index(self):
        for ahead in [[], [("order", 0)]]:
            player = played(TASK, PLAN, A, ahead)
            for thing in samples.odd_values() + [4, -4, 100]:
                if type(thing) is not int or not 0 <= thing < 4:
                    self.refuses(player, NoIndex, {"index": thing}, lambda: player.order(thing))
        thing = [0]
        with self.assertRaises(NoIndex) as caught:
            player.order(thing)
        self.assertIs(caught.exception.index, thing)

    def test_errors_in_their_order(self):
        player = played(TASK, PLAN, A, [("order", 1)])
        self.refuses(player, NoIndex, {"index": 9}, lambda: player.order(9))
        self.refuses(player, UnderWay, {"index": 1}, lambda: player.order(2))
        self.refuses(player, UnderWay, {"index": 1}, lambda: player.order(1))
        player = Player(TASK, PLAN, A)
        self.refuses(player, NotStart, {"start": B}, lambda: player.order(2))
        self.refuses(player, NotStart, {"start": C}, lambda: player.order(3))

    def test_undo_of_each_kind(self):
        player = played(TASK, PLAN, A, [("order", 0), STEP, DIE, STEP, STEP])
        self.assertEqual(player.undo(), STEP)
        self.assertEqual(self.seen(player)[:5], [Y, 0, None, A, []])
        self.assertEqual(player.undo(), STEP)
        self.assertEqual(self.seen(player)[:5], [X, 0, None, A, []])
        self.assertEqual(player.undo(), DIE)
        self.assertEqual(self.seen(player)[:5], [X, 0, 1, A, []])
        self.assertEqual(player.undo(), STEP)
        self.assertEqual(player.undo(), ("order", 0))
        self.assertEqual(self.seen(player), [A, None, None, A, [], []])
        self.refuses(player, Nothing, {}, player.undo)

    def test_ordinary_runs(self):
        rng = random.Random(15)
        for _ in range(150):
            task, plan = samples.random_planned(rng)
            rest = rng.choice(task[1])
            player = Player(task, plan, rest)
            deeds = []
            others = []
            for _ in range(60):
                run = reference.Run(task, plan, rest, deeds)
                self.assertEqual(self.seen(player), run.seen() + [deeds])
                word = rng.choice(["order"] * 3 + ["step"] * 5 + ["die", "undo", "copied"])
                if word == "undo":
                    if deeds:
                        self.assertEqual(player.undo(), deeds.pop())
                elif word == "copied":
                    others.append((player, self.seen(player)))
                    player = player.copied()
                elif word == "order":
                    if run.index is None and task[2]:
                        index = rng.randrange(len(task[2]))
                        if task[2][index][0] == run.content:
                            self.assertIsNone(player.order(index))
                            deeds.append(("order", index))
                        else:
                            start = task[2][index][0]
                            self.refuses(player, NotStart, {"start": start}, lambda: player.order(index))
                    elif task[2]:
                        self.refuses(player, UnderWay, {"index": run.index}, lambda: player.order(0))
                elif run.index is None:
                    self.refuses(player, Nothing, {}, player.step if word == "step" else player.die)
                elif word == "step" and run.at is None and run.content not in dict(plan[0]):
                    self.refuses(player, Stuck, {"content": run.content}, player.step)
                else:
                    told = player.step() if word == "step" else player.die()
                    deeds.append((word,))
                    now = reference.Run(task, plan, rest, deeds).content
                    self.assertEqual(told, (run.content, now) if word == "step" else None)
            for other, before in others:
                self.assertEqual(self.seen(other), before)
            again = played(task, plan, rest, player.deeds_done())
            self.assertEqual(self.seen(again), self.seen(player))
            self.assertTrue(again == player)
            self.assertIsNone(first_bad(task, plan, rest, player.deeds_done()))

    def test_home_is_where_deaths_lead(self):
        rng = random.Random(16)
        for _ in range(60):
            task, plan = samples.random_planned(rng)
            for index, order in enumerate(task[2]):
                way = plan[1][index]
                at = rng.randrange(len(way) - 1)
                player = played(task, plan, order[0], [("order", index)] + [STEP] * at + [DIE])
                home = reference.home(task, plan[0], way[at])
                for _ in range(40):
                    if player.order_now() is not None and player.content_now() in dict(plan[0]):
                        player.step()
                self.assertEqual(player.ended_now(), [] if home is None else [(index, home)])

    def test_copies_go_their_own_ways(self):
        player = played(TASK, PLAN, A, [("order", 0), STEP])
        other = player.copied()
        self.assertIsInstance(other, Player)
        self.assertEqual(self.seen(other), self.seen(player))
        other.die()
        other.step()
        other.step()
        self.assertEqual(self.seen(player)[:5], [X, 0, 1, A, []])
        player.undo()
        player.undo()
        self.assertEqual(self.seen(other)[:5], [B, None, None, B, [(0, B)]])
        self.assertEqual([other.undo() for _ in range(5)], [STEP, STEP, DIE, STEP, ("order", 0)])
        self.assertEqual(self.seen(other), self.seen(player))

    def test_equality(self):
        player = played(TASK, PLAN, A, [("order", 0), STEP, STEP, STEP, STEP, DIE])
        self.assertIs(player == Player(TASK, PLAN, B), True)
        self.assertIs(player != Player(TASK, PLAN, B), False)
        self.assertIs(player == Player(TASK, PLAN, A), False)
        self.assertIs(player == Player(TASK, ROUND, B), False)
        self.assertIs(player == Player((BENCH, (A, B, C), TASK[2][:3]), (RULE, WAYS[:3]), B), False)
        self.assertIs(player == Player((BENCH, (A, B, C), TASK[2][:3] + ((C, A, (A,)),)), PLAN, B), False)
        self.assertIs(Player(TASK, PLAN, A) == played(TASK, PLAN, A, [("order", 0)]), False)
        self.assertIs(played(TASK, PLAN, A, [("order", 1)]) == played(TASK, PLAN, A, [("order", 0)]), False)
        self.assertIs(played(TASK, PLAN, A, [("order", 0), STEP]) == played(TASK, PLAN, A, [("order", 0), STEP, DIE]),
                      False)
        self.assertIs(played(TASK, PLAN, A, [("order", 0)])
                      == played(TASK, PLAN, A, [("order", 0), STEP, STEP]), False)
        one = played(TASK, PLAN, A, [("order", 0), STEP, DIE, DIE])
        self.assertIs(one == played(TASK, PLAN, A, [("order", 0), STEP, DIE]), True)
        for thing in samples.odd_values():
            self.assertIs(player == thing, False)
            self.assertIs(thing == player, False)
            self.assertIs(player != thing, True)

    def test_wrong_arguments(self):
        def wrong(place, task, plan, rest):
            for call in [Player, lambda *given: played(*given, [5]), lambda *given: first_bad(*given, [5])]:
                with self.assertRaises(Wrong) as caught:
                    call(task, plan, rest)
                self.assertEqual(caught.exception.place, place)
        for thing in samples.odd_values():
            wrong(0, thing, PLAN, A)
            wrong(0, thing, 5, 5)
            wrong(1, TASK, thing, A)
            wrong(1, TASK, thing, None)
            if thing != (0,) or repr(thing) != "(0,)":
                wrong(2, TASK, PLAN, thing)
        for thing in [X, (False,), [0], (0, 0), (9,)]:
            wrong(2, TASK, PLAN, thing)
        for bent in samples.as_truths(TASK):
            wrong(0, bent, PLAN, A)
        for bent in samples.as_truths(PLAN):
            wrong(1, TASK, bent, A)
        wrong(1, TASK, (RULE, WAYS[:3]), A)
        wrong(1, TASK, (((A, X),), WAYS), A)

    def test_deeds_that_are_none(self):
        bad = [("order",), ("order", 0, 1), ("step", 0), ("die", None), ["step"], ["order", 0], "step", (), ("steps",),
               ("late", 0, 0), ("Order", 0), (("step",),), [("step",)], None, True, 0, {}, samples.a_player(),
               (samples.a_player(),), (samples.a_player(), 0), samples.deep(59)]
        for thing in bad:
            for ahead in [[], [("order", 0), STEP]]:
                given = ahead + [thing, 5]
                before = repr(given)
                with self.assertRaises(BadDeed) as caught:
                    played(TASK, PLAN, A, given)
                self.assertEqual(caught.exception.index, len(ahead))
                self.assertEqual(first_bad(TASK, PLAN, A, given), len(ahead))
                self.assertEqual(repr(given), before)

    def test_forms_are_asked_first(self):
        given = [STEP, ("order", 9), ("order",)]
        with self.assertRaises(BadDeed) as caught:
            played(TASK, PLAN, A, given)
        self.assertEqual(caught.exception.index, 2)
        self.assertEqual(first_bad(TASK, PLAN, A, given), 0)

    def test_deeds_that_cannot_be_done(self):
        for given, at, error, fields in [
            ([STEP], 0, Nothing, {}), ([DIE, STEP], 0, Nothing, {}), ([("order", 7)], 0, NoIndex, {"index": 7}),
            ([("order", True)], 0, NoIndex, {"index": True}), ([("order", [])], 0, NoIndex, {"index": []}),
            ([("order", 2)], 0, NotStart, {"start": B}), ([("order", 1), STEP, STEP], 2, Nothing, {}),
            ([("order", 1), ("order", 9), STEP], 1, NoIndex, {"index": 9}),
            ([("order", 1), STEP, ("order", 0)], 2, NotStart, {"start": A}),
            ([("order", 1), ("order", 1), STEP], 1, UnderWay, {"index": 1}),
            ([("order", 0), DIE, ("order", 0), DIE, DIE], 4, Nothing, {}),
        ]:
            with self.assertRaises(error) as caught:
                played(TASK, PLAN, A, given)
            self.assertIs(type(caught.exception), error)
            self.assertEqual(vars(caught.exception), fields)
            self.assertEqual(first_bad(TASK, PLAN, A, given), at)
            self.assertIsNone(first_bad(TASK, PLAN, A, given[:at]))
        with self.assertRaises(Stuck) as caught:
            played(TASK, PLAN, B, [("order", 2), STEP, DIE, STEP])
        self.assertEqual(caught.exception.content, Z)
        self.assertEqual(first_bad(TASK, PLAN, B, [("order", 2), STEP, DIE, STEP]), 3)
        self.assertIsNone(first_bad(TASK, PLAN, A, []))

    def test_answers_may_be_changed(self):
        given = [("order", 0), STEP, STEP, DIE, ("order", 1)]
        player = played(TASK, PLAN, A, given)
        before = repr(self.seen(player))
        player.ended_now().append((5, A))
        player.deeds_done().clear()
        given.clear()
        self.assertEqual(repr(self.seen(player)), before)
        self.assertEqual(player.undo(), ("order", 1))


if __name__ == "__main__":
    unittest.main()
