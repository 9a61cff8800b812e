"""The examples that the document prints."""

import doctest
import unittest
from pathlib import Path

README = Path(__file__).resolve().parent.parent / "README.md"

EXAMPLES = {
    "behind [17]": '''
>>> from onorback.benches import distance, free_place, reached_from, rise_place, shortest_way, slide_place
>>> bench = (slide_place(3), free_place(2))
>>> bench
((3, ((0, 1), (1, 0), (1, 2), (2, 1))), (2, ((0, 1), (1, 0))))
>>> [shortest_way(bench, (0, 0), (2, 0), [(1, 0)]), distance(bench, (0, 0), (2, 0), [(1, 0), (1, 1)])]
[((0, 0), (0, 1), (1, 1), (2, 1), (2, 0)), None]
>>> reached_from((rise_place(3),), [(1,)], [])
[(1,), (2,)]
''',
    "in [20]": r'''
>>> from onorback.texts import show_task
>>> show_task((((2, ((0, 1), (1, 0))), (3, ((0, 1), (1, 2), (2, 0)))), ((0, 0), (1, 0)), (((0, 0), (1, 0), ((0, 0), (1, 0))), ((1, 0), (0, 0), ()))))
'free 2\nplace 3 0>1 1>2 2>0\nrests 00 10\neither 00 10\norder 10 00 to'
''',
    "behind [25]": '''
>>> from onorback.player import Player
>>> flip = (2, ((0, 1), (1, 0)))
>>> task = ((flip, flip), ((0, 0), (1, 1)), (((0, 0), (1, 1), ((0, 0), (1, 1))),))
>>> plan = ((((0, 1), (0, 0)), ((1, 0), (1, 1))), (((0, 0), (1, 0), (1, 1)),))
>>> player = Player(task, plan, (0, 0))
>>> [player.order(0), player.step(), player.die(), player.at_now(), player.step(), player.order_now()]
[None, ((0, 0), (1, 0)), None, None, ((1, 0), (1, 1)), None]
>>> [player.content_now(), player.ended_now(), player.undo(), player.order_now()]
[(1, 1), [(0, (1, 1))], ('step',), 0]
''',
    "behind [29]": '''
>>> from onorback.judging import first_break, story_of
>>> from onorback.mending import least_changes, way_by_rule
>>> bits = ((2, ((0, 1), (1, 0))), (2, ((0, 1), (1, 0))))
>>> task = (bits, ((0, 0), (1, 1)), (((0, 0), (1, 1), ((1, 1),)),))
>>> plan = ((((0, 1), (0, 0)), ((1, 0), (1, 1))), (((0, 0), (0, 1), (1, 1)),))
>>> [first_break(task, plan, 0), story_of(task, plan, 0)]
[(1, (0, 0)), [('order', 0), ('step',), ('die',), ('step',)]]
>>> way_by_rule(task, plan[0], 0)
((0, 0), (1, 0), (1, 1))
>>> least_changes(task, plan, 1)
(1, (((0, 1), (1, 1)), ((1, 0), (1, 1))))
''',
    "behind [34]": '''
>>> from onorback.benches import either_order, free_place
>>> from onorback.homeways import longest_home, spare_contents
>>> from onorback.models import model_of, plan_of, unserved_orders
>>> bench = (free_place(2), free_place(2))
>>> rests = ((0, 0), (1, 1))
>>> task = (bench, rests, (either_order((0, 0), (1, 1)), ((1, 1), (0, 0), ((0, 0),))))
>>> lots = (((0, 0), (0, 1)), ((1, 1),))
>>> plan_of(task, lots)
((((0, 1), (0, 0)),), (((0, 0), (0, 1), (1, 1)), ((1, 1), (0, 1), (0, 0))))
>>> [model_of(task, plan_of(task, lots)) == lots, longest_home(task, lots), spare_contents(task, lots)]
[True, 1, []]
>>> unserved_orders(task, (((0, 0),), ((0, 1), (1, 1))))
[1]
''',
    "in [38]": '''
>>> from onorback.benches import slide_place
>>> from onorback.cases import case_tree, is_tree
>>> from onorback.finding import find_model
>>> bench, ends = (slide_place(3),), ((0,), (2,))
>>> find_model((bench, ends, (((0,), (2,), ((0,),)),)))
(((0,), (1,)), ((2,),))
>>> task = (bench, ends, (((0,), (2,), ((0,),)), ((2,), (0,), ((2,),))))
>>> [find_model(task), is_tree(task, case_tree(task))]
[None, True]
>>> is_tree(task, ("split", (1,), (("order", 1), ("order", 0), ("order", 0))))
True
>>> case_tree((bench, ((0,), (1,), (2,)), (((0,), (2,), ends),)))
('order', 0)
''',
    "behind [43]": '''
>>> from onorback.cuts import barring_cut, least_cover
>>> from onorback.drawings import drawing_of, drawing_sum
>>> from onorback.sums import room_of, sum_fault
>>> slide = (3, ((0, 1), (1, 0), (1, 2), (2, 1)))
>>> path = ((slide,), ((0,), (1,), (2,)), (((0,), (2,), ((0,), (2,))),))
>>> [room_of(path), sum_fault(path), least_cover(path, ((1,),)), barring_cut(path, 1)]
[2, None, ((0,), (1,)), ((1,),)]
>>> bits = ((2, ((0, 1), (1, 0))), (2, ((0, 1), (1, 0))))
>>> drawing_of((slide,))
[((0,), (1,), (2,), (1,))]
>>> [drawing_of(bits), drawing_sum(bits, drawing_of(bits))]
[[((0, 0), (0, 1), (1, 1), (1, 0)), ((0, 0), (1, 0), (1, 1), (0, 1))], 2]
''',
    "behind [48]": '''
>>> from onorback.anytoany import most_any
>>> from onorback.benches import free_place, slide_place
>>> from onorback.greatest import greatest_orders, least_barred, least_ends
>>> from onorback.sealed import most_rests, places_for, sealed_home, sealed_next
>>> ends = ((0,), (2,))
>>> task = ((slide_place(3),), ends, (((0,), (2,), ((0,),)), ((2,), (0,), ((2,),))))
>>> [greatest_orders(task, (0, 1)), least_barred(task, (0, 1)), least_ends(task, 1, ends)]
[[(0,), (1,)], [(0, 1)], [((0,),)]]
>>> [most_any((free_place(2), free_place(2))), most_rests(2), most_rests(3), places_for(3)]
[3, 3, 4, (2, 5)]
>>> [sealed_home(1, (0, 1, 1)), sealed_next(1, (0, 1, 1)), sealed_next(1, (1, 1, 1))]
[(1, 0, 0), (1, 1, 1), (1, 1, 0)]
''',
    "behind [52]": '''
>>> from onorback.benches import slide_place
>>> from onorback.leastlog import least_meeting, least_values
>>> from onorback.logs import bears_couples, cover_layers, log_task
>>> bench, couples = (slide_place(3),), (((0,), (2,)),)
>>> log_task(bench, couples, 2)[1]
((0, 0), (1, 0), (2, 0))
>>> [least_meeting(couples), cover_layers(bench, ((0,),)), least_values(bench, couples, 6)[0]]
[((0,),), (((0,), (0,), (0,)),), 2]
>>> [bears_couples(bench, couples, (((0,), (0,), None),)), bears_couples(bench, couples, (((0,), (0,), (2,)),))]
[False, True]
''',
    "behind [56]": '''
>>> from onorback.benches import either_order, slide_place
>>> from onorback.late import is_barrier, late_deeds_in, late_distance
>>> from onorback.situations import deeds_from
>>> task = ((slide_place(3),), ((0,), (2,)), (either_order((0,), (2,)), either_order((2,), (0,))))
>>> plan = ((((1,), (0,)),), (((0,), (1,), (2,)), ((2,), (1,), (0,))))
>>> late_distance(task, plan)
1
>>> deeds_from(task, plan, ((1,), 0, 1))
[(('die',), ((1,), 0, -1)), (('late', 0, 1), ((2,), -1, -1)), (('late', 1, 1), ((0,), -1, -1)), (('step',), ((2,), -1, -1))]
>>> deeds_from(task, plan, ((2,), -1, -1))
[(('late', 1, 0), None), (('order', 1), ((2,), 1, 0))]
>>> late_deeds_in(task, plan, ((2,), [("late", 1, 0)]))
1
''',
    "behind [60]": '''
>>> from onorback.benches import either_order, slide_place
>>> from onorback.both import bears, breaking_pairs
>>> from onorback.wrong import wrong_distance, wrong_story
>>> rests = ((0,), (4,))
>>> task = ((slide_place(5),), rests, (either_order((0,), (4,)), either_order((4,), (0,))))
>>> rule = (((1,), (0,)), ((2,), (1,)), ((3,), (4,)))
>>> plan = (rule, (((0,), (1,), (2,), (3,), (4,)), ((4,), (3,), (2,), (1,), (0,))))
>>> [wrong_distance(task, plan), breaking_pairs(task, plan), bears(task, plan, 1, 0)]
[1, [(0, 1), (2, 0)], True]
''',
    "behind [64]": '''
>>> from onorback.looks import action_by, least_looks, looks_depth
>>> from onorback.sides import both_order
>>> bits = ((2, ((0, 1), (1, 0))), (2, ((0, 1), (1, 0))))
>>> task = (bits, ((0, 0), (1, 1)), (((0, 0), (1, 1), ((1, 1),)),))
>>> rule = (((0, 1), (1, 1)), ((1, 0), (1, 1)))
>>> looks = ("look", 0, (("look", 1, (("rest",), ("put", 0, 1))), ("look", 1, (("put", 1, 1), ("rest",)))))
>>> [least_looks(task, rule)[0], looks_depth(task, rule, looks), action_by(looks, (0, 1))]
[2, 2, ('put', 0, 1)]
>>> slide = (3, ((0, 1), (1, 0), (1, 2), (2, 1)))
>>> line = ((slide,), ((0,), (2,)), (((0,), (2,), ((0,), (2,))),))
>>> both_order(task, 0, line, 0)
((0, 0, 0), (1, 1, 2), ((1, 1, 0), (1, 1, 2)))
''',
    "in [68]": r'''
>>> from onorback.desk import Desk
>>> desk = Desk("free 2\nfree 2\nrests 00 11\neither 00 11")
>>> [desk.execute("task"), desk.execute("unrest 11"), desk.execute("drop 00 11"), desk.execute("undo")]
[['free 2', 'free 2', 'rests 00 11', 'either 00 11'], ['refused InUse'], ['done'], ['done']]
>>> [desk.execute("room"), desk.execute("rest 01"), desk.execute("promises")]
[['1'], ['done'], []]
''',
}


class ExamplesTest(unittest.TestCase):
    def test_examples(self):
        examples = {**EXAMPLES, "README": README.read_text(encoding="utf-8")}
        for name, text in examples.items():
            told = []
            example = doctest.DocTestParser().get_doctest(text, {}, name, None, None)
            result = doctest.DocTestRunner(verbose=False).run(example, out=told.append)
            self.assertEqual(result.failed, 0, "".join(told))
            self.assertGreater(result.attempted, 1)


if __name__ == "__main__":
    unittest.main()
