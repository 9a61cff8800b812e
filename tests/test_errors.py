"""[15] and [4]: the errors, their fields, and what they are subclasses of."""

import unittest

from onorback import errors
from tests.samples import odd_values

SIGNATURES = {
    "BadDeed": ["index"], "Broken": ["index", "story"], "InUse": ["start", "goal"], "NoCommand": [], "NoDeed": [],
    "NoDrawing": [], "NoIndex": ["index"], "NoJoin": [], "NoOrder": ["start", "goal"], "NoRest": ["content"],
    "NoReturn": ["index"], "NoText": ["line"], "NotKept": ["index"], "NotServed": ["index"], "NotStart": ["start"],
    "NotTwoWay": [], "Nothing": [], "Refused": ["tree"], "Stuck": ["content"], "TooMany": ["most"],
    "UnderWay": ["index"], "Wrong": ["place"],
}


class ErrorsTest(unittest.TestCase):
    def test_each_derives_from_the_first_alone(self):
        self.assertEqual(errors.OnError.__bases__, (ValueError,))
        for name in SIGNATURES:
            self.assertEqual(getattr(errors, name).__bases__, (errors.OnError,), name)

    def test_there_are_no_others(self):
        classes = {name for name, value in vars(errors).items() if isinstance(value, type)}
        self.assertEqual(classes, set(SIGNATURES) | {"OnError"})

    def test_fields_are_the_objects_themselves(self):
        for name, fields in SIGNATURES.items():
            for value in odd_values() + [object()]:
                given = [[value], value][:len(fields)]
                error = getattr(errors, name)(*given)
                self.assertEqual(len(vars(error)), len(fields))
                for field, thing in zip(fields, given):
                    self.assertIs(getattr(error, field), thing)

    def test_they_take_just_their_arguments(self):
        for name, fields in SIGNATURES.items():
            for many in range(4):
                if many != len(fields):
                    with self.assertRaises(TypeError):
                        getattr(errors, name)(*range(many))

    def test_arguments_have_the_names_of_fields(self):
        for name, fields in SIGNATURES.items():
            error = getattr(errors, name)(**{field: field for field in fields})
            self.assertEqual(vars(error), {field: field for field in fields})

    def test_the_first_takes_any_values(self):
        for given in [(), (1,), ([], None), (1, 2, 3)]:
            self.assertIsInstance(errors.OnError(*given), ValueError)

    def test_a_list_is_kept_and_not_copied(self):
        story = [("step",)]
        error = errors.Broken(0, story)
        story.append(("die",))
        self.assertEqual(error.story, [("step",), ("die",)])


if __name__ == "__main__":
    unittest.main()
