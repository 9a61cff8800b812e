"""The examples that the document prints."""

import doctest
import unittest
from pathlib import Path

README = Path(__file__).resolve().parent.parent / "README.md"

EXAMPLES = {
    "behind [17]": '''
>>> from onorback.benches import distance, free_place, reached_from, rise_place, shortest_way, slide_place
>>> bench = (slide_place(3), free_place(2))
>>> bench
((3, ((0, 1), (1, 0), (1, 2), (2, 1))), (2, ((0, 1), (1, 0))))
>>> [shortest_way(bench, (0, 0), (2, 0), [(1, 0)]), distance(bench, (0, 0), (2, 0), [(1, 0), (1, 1)])]
[((0, 0), (0, 1), (1, 1), (2, 1), (2, 0)), None]
>>> reached_from((rise_place(3),), [(1,)], [])
[(1,), (2,)]
''',
    "in [20]": r'''
>>> from onorback.texts import show_task
>>> show_task((((2, ((0, 1), (1, 0))), (3, ((0, 1), (1, 2), (2, 0)))), ((0, 0), (1, 0)), (((0, 0), (1, 0), ((0, 0), (1, 0))), ((1, 0), (0, 0), ()))))
'free 2\nplace 3 0>1 1>2 2>0\nrests 00 10\neither 00 10\norder 10 00 to'
''',
    "behind [25]": '''
>>> from onorback.player import Player
>>> flip = (2, ((0, 1), (1, 0)))
>>> task = ((flip, flip), ((0, 0), (1, 1)), (((0, 0), (1, 1), ((0, 0), (1, 1))),))
>>> plan = ((((0, 1), (0, 0)), ((1, 0), (1, 1))), (((0, 0), (1, 0), (1, 1)),))
>>> player = Player(task, plan, (0, 0))
>>> [player.order(0), player.step(), player.die(), player.at_now(), player.step(), player.order_now()]
[None, ((0, 0), (1, 0)), None, None, ((1, 0), (1, 1)), None]
>>> [player.content_now(), player.ended_now(), player.undo(), player.order_now()]
[(1, 1), [(0, (1, 1))], ('step',), 0]
''',
    "behind [29]": '''
>>> from onorback.judging import first_break, story_of
>>> from onorback.mending import least_changes, way_by_rule
>>> bits = ((2, ((0, 1), (1, 0))), (2, ((0, 1), (1, 0))))
>>> task = (bits, ((0, 0), (1, 1)), (((0, 0), (1, 1), ((1, 1),)),))
>>> plan = ((((0, 1), (0, 0)), ((1, 0), (1, 1))), (((0, 0), (0, 1), (1, 1)),))
>>> [first_break(task, plan, 0), story_of(task, plan, 0)]
[(1, (0, 0)), [('order', 0), ('step',), ('die',), ('step',)]]
>>> way_by_rule(task, plan[0], 0)
((0, 0), (1, 0), (1, 1))
>>> least_changes(task, plan, 1)
(1, (((0, 1), (1, 1)), ((1, 0), (1, 1))))
''',
    "behind [34]": '''
>>> from onorback.benches import either_order, free_place
>>> from onorback.homeways import longest_home, spare_contents
>>> from onorback.models import model_of, plan_of, unserved_orders
>>> bench = (free_place(2), free_place(2))
>>> rests = ((0, 0), (1, 1))
>>> task = (bench, rests, (either_order((0, 0), (1, 1)), ((1, 1), (0, 0), ((0, 0),))))
>>> lots = (((0, 0), (0, 1)), ((1, 1),))
>>> plan_of(task, lots)
((((0, 1), (0, 0)),), (((0, 0), (0, 1), (1, 1)), ((1, 1), (0, 1), (0, 0))))
>>> [model_of(task, plan_of(task, lots)) == lots, longest_home(task, lots), spare_contents(task, lots)]
[True, 1, []]
>>> unserved_orders(task, (((0, 0),), ((0, 1), (1, 1))))
[1]
''',
    "in [38]": '''
>>> from onorback.benches import slide_place
>>> from onorback.cases import case_tree, is_tree
>>> from onorback.finding import find_model
>>> bench, ends = (slide_place(3),), ((0,), (2,))
>>> find_model((bench, ends, (((0,), (2,), ((0,),)),)))
(((0,), (1,)), ((2,),))
>>> task = (bench, ends, (((0,), (2,), ((0,),)), ((2,), (0,), ((2,),))))
>>> [find_model(task), is_tree(task, case_tree(task))]
[None, True]
>>> is_tree(task, ("split", (1,), (("order", 1), ("order", 0), ("order", 0))))
True
>>> case_tree((bench, ((0,), (1,), (2,)), (((0,), (2,), ends),)))
('order', 0)
''',
    "behind [43]": '''
>>> from onorback.cuts import barring_cut, least_cover
>>> from onorback.drawings import drawing_of, drawing_sum
>>> from onorback.sums import room_of, sum_fault
>>> slide = (3, ((0, 1), (1, 0), (1, 2), (2, 1)))
>>> path = ((slide,), ((0,), (1,), (2,)), (((0,), (2,), ((0,), (2,))),))
>>> [room_of(path), sum_fault(path), least_cover(path, ((1,),)), barring_cut(path, 1)]
[2, None, ((0,), (1,)), ((1,),)]
>>> bits = ((2, ((0, 1), (1, 0))), (2, ((0, 1), (1, 0))))
>>> drawing_of((slide,))
[((0,), (1,), (2,), (1,))]
>>> [drawing_of(bits), drawing_sum(bits, drawing_of(bits))]
[[((0, 0), (0, 1), (1, 1), (1, 0)), ((0, 0), (1, 0), (1, 1), (0, 1))], 2]
''',
    "behind [48]": '''
>>> from onorback.anytoany import most_any
>>> from onorback.benches import free_place, slide_place
>>> from onorback.greatest import greatest_orders, least_barred, least_ends
>>> from onorback.sealed import most_rests, places_for, sealed_home, sealed_next
>>> ends = ((0,), (2,))
>>> task = ((slide_place(3),), ends, (((0,), (2,), ((0,),)), ((2,), (0,), ((2,),))))
>>> [greatest_orders(task, (0, 1)), least_barred(task, (0, 1)), least_ends(task, 1, ends)]
[[(0,), (1,)], [(0, 1)], [((0,),)]]
>>> [most_any((free_place(2), free_place(2))), most_rests(2), most_rests(3), places_for(3)]
[3, 3, 4, (2, 5)]
>>> [sealed_home(1, (0, 1, 1)), sealed_next(1, (0, 1, 1)), sealed_next(1, (1, 1, 1))]
[(1, 0, 0), (1, 1, 1), (1, 1, 0)]
''',
}


class ExamplesTest(unittest.TestCase):
    def test_examples(self):
        examples = {**EXAMPLES, "README": README.read_text(encoding="utf-8")}
        for name, text in examples.items():
            told = []
            example = doctest.DocTestParser().get_doctest(text, {}, name, None, None)
            result = doctest.DocTestRunner(verbose=False).run(example, out=told.append)
            self.assertEqual(result.failed, 0, "".join(told))
            self.assertGreater(result.attempted, 1)


if __name__ == "__main__":
    unittest.main()
