"""The interface: every name, with its arguments, in the file under which the document lists it."""

import importlib
import inspect
import unittest

FUNCTIONS = {
    "forms": "is_integer(thing) is_place(thing) is_bench(thing) is_task(thing) is_content(bench, thing) "
             "is_step(bench, thing) is_rule(task, thing) is_ways(task, thing) is_plan(task, thing) "
             "is_lots(task, thing) is_model(task, thing)",
    "benches": "free_place(many) slide_place(many) dial_place(many) rise_place(many) with_orders(task, orders) "
               "either_order(start, goal) contents_of(bench) steps_from(bench, content) steps_to(bench, content) "
               "reached_from(bench, some, barred) pieces_of(bench, some) is_two_way(bench) "
               "shortest_way(bench, one, other, barred) distance(bench, one, other, barred)",
    "texts": "show_bench(bench) show_task(task) show_plan(plan) show_model(model)",
    "reader": "read_bench(text) read_task(text) read_plan(task, text) read_model(task, text)",
    "homes": "home_of(task, rule, content) homes_of(task, rule) path_home(task, rule, content) "
             "stuck_contents(task, rule) rings_of(task, rule)",
    "player": "played(task, plan, rest, deeds) first_bad(task, plan, rest, deeds)",
    "judging": "keeps_order(task, plan, index) keeps_task(task, plan) is_story(task, plan, index, thing) "
               "same_homes(task, one, other) broken_orders(task, plan) first_break(task, plan, index) "
               "story_of(task, plan, index)",
    "mending": "way_by_rule(task, rule, index) least_changes(task, plan, most) orders_by_rule(task, rule)",
    "models": "served_way(task, lots, index) unserved_orders(task, lots) model_of(task, plan) rule_of(task, lots) "
              "plan_of(task, lots)",
    "homeways": "home_steps(task, lots) longest_home(task, lots) spare_contents(task, lots) tight_model(task, lots)",
    "joining": "joined_rests(task, lots, one, other)",
    "finding": "find_model(task)",
    "cases": "case_tree(task) is_tree(task, thing) size_of_tree(tree) depth_of_tree(tree)",
    "sums": "pairs_of(task) room_of(task) sum_fault(task)",
    "cuts": "crossing_orders(task, cut) least_cover(task, cut) is_barring(task, cut) barring_cut(task, most)",
    "drawings": "is_drawing(bench, thing) drawing_sum(bench, faces) drawing_of(bench) drawing_fault(task, faces)",
    "greatest": "greatest_orders(task, chosen) least_barred(task, chosen) least_ends(task, index, chosen)",
    "anytoany": "any_to_any(bench, many) most_any(bench)",
    "sealed": "sealed_task(h) sealed_model(h) sealed_home(h, content) sealed_next(h, content) "
              "sealed_way(h, start, goal) most_rests(places) places_for(many)",
    "logs": "log_task(bench, couples, many) lots_of_layers(bench, layers) layers_of_lots(bench, many, lots) "
            "cover_layers(bench, cover) bears_couples(bench, couples, thing)",
    "leastlog": "least_values(bench, couples, most) least_meeting(couples)",
    "situations": "begin_situations(task) deeds_from(task, plan, situation)",
    "late": "late_distance(task, plan) late_deeds_in(task, plan, thing) late_story(task, plan) barrier_of(task, plan) "
            "is_barrier(task, plan, many, thing)",
    "wrong": "wrong_deeds_from(task, plan, situation) wrong_distance(task, plan) wrong_deeds_in(task, plan, thing) "
             "wrong_story(task, plan) wrong_barrier_of(task, plan) is_wrong_barrier(task, plan, many, thing)",
    "both": "mixed_deeds_in(task, plan, thing) mixed_story(task, plan, late, wrong) breaking_pairs(task, plan) "
            "bears(task, plan, late, wrong)",
    "sides": "side_task(one, other) side_model(one, model, other, its_model) side_plan(one, plan, other, its_plan) "
             "both_order(one, index, other, its_index) both_way(one, plan, index, other, its_plan, its_index) "
             "room_word(one, other)",
    "looks": "least_looks(task, rule) least_rule(task, model, most) action_by(looks, content) "
             "looks_depth(task, rule, thing)",
}

CLASSES = {
    "player.Player": "order(index) die() step() undo() content_now() rest_now() order_now() at_now() ended_now() deeds_done() "
                     "copied() __eq__(other) __init__(task, plan, rest)",
    "book.Book": "do(deed) task_now() plan_now() promises_now() deeds_done() undo() redo() copied() __eq__(other) "
                 "__init__(task)",
    "desk.Desk": "execute(line) book() __init__(text)",
}


def told(text):
    """The tuples (name, arguments) that a row of the interface tells."""
    for part in text.replace(") ", ")\n").split("\n"):
        name, rest = part.split("(")
        yield name, [word for word in rest.rstrip(")").split(", ") if word]


class InterfaceTest(unittest.TestCase):
    def test_functions(self):
        for name, text in FUNCTIONS.items():
            module = importlib.import_module("onorback." + name)
            for function, arguments in told(text):
                value = getattr(module, function)
                self.assertTrue(inspect.isfunction(value))
                self.assertEqual(value.__module__, "onorback." + name)
                self.assert_positional(value, arguments)

    def test_classes(self):
        for name, text in CLASSES.items():
            module, kind = name.split(".")
            found = getattr(importlib.import_module("onorback." + module), kind)
            self.assertEqual((found.__module__, found.__bases__), ("onorback." + module, (object,)))
            for method, arguments in told(text):
                self.assertIn(method, vars(found))
                self.assert_positional(vars(found)[method], ["self"] + arguments)

    def assert_positional(self, value, arguments):
        parameters = inspect.signature(value).parameters
        self.assertEqual(list(parameters), arguments)
        for parameter in parameters.values():
            self.assertEqual(parameter.kind, parameter.POSITIONAL_OR_KEYWORD)
            self.assertIs(parameter.default, parameter.empty)


if __name__ == "__main__":
    unittest.main()
