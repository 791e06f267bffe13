import unittest

from helpers import FIELDS
from oneshape import errors

PLAIN = """
    InvalidRanking InvalidContent InvalidTree InvalidKey InvalidCount InvalidLevels InvalidPage
    InvalidStretch InvalidWalk InvalidStore InvalidViews InvalidTold InvalidPlan InvalidLot
    InvalidChoices InvalidEdition InvalidPaper InvalidWorth InvalidCommand InvalidOrder
    InvalidTrees InvalidContents Refused NothingToUndo NoSpan NotReady
""".split()


class ErrorClasses(unittest.TestCase):
    def test_shape_error_is_a_value_error(self):
        self.assertEqual(errors.ShapeError.__bases__, (ValueError,))
        self.assertIsInstance(errors.ShapeError("any words"), ValueError)

    def test_each_class_is_under_shape_error_and_under_no_other_one(self):
        classes = [getattr(errors, name) for name in PLAIN + list(FIELDS)]
        self.assertEqual(len(set(classes)), 35)
        for made in classes:
            self.assertTrue(issubclass(made, errors.ShapeError), made)
            for other in classes:
                self.assertEqual(issubclass(made, other), made is other, (made, other))

    def test_each_is_defined_in_the_file(self):
        for name in ["ShapeError"] + PLAIN + list(FIELDS):
            self.assertEqual(getattr(errors, name).__module__, "oneshape.errors")
            self.assertEqual(getattr(errors, name).__name__, name)

    def test_the_plain_ones_are_made_with_one_string(self):
        for name in ["ShapeError"] + PLAIN:
            made = getattr(errors, name)
            for words in ("", "any words"):
                with self.assertRaises(made):
                    raise made(words)

    def test_a_field_by_position_and_by_name_keeps_the_very_value(self):
        for name, field in FIELDS.items():
            made = getattr(errors, name)
            for value in (0, 7, -10 ** 89, True, None, "words", (), (1, 2), [1, [2]], {"a": 1}, object()):
                self.assertIs(getattr(made(value), field), value, name)
                self.assertIs(getattr(made(**{field: value}), field), value, name)

    def test_a_field_stays_the_same_list(self):
        for name, field in FIELDS.items():
            value = [1]
            error = getattr(errors, name)(value)
            value.append(2)
            self.assertEqual(getattr(error, field), [1, 2])

    def test_a_field_must_be_given_and_has_just_this_name(self):
        for name, field in FIELDS.items():
            made = getattr(errors, name)
            self.assertRaises(TypeError, made)
            self.assertRaises(TypeError, made, 1, 2)
            for other in {"index", "count", "lot", "ring"} - {field}:
                self.assertFalse(hasattr(made(1), other), name)

    def test_they_are_caught_with_their_fields(self):
        for name, field in FIELDS.items():
            made = getattr(errors, name)
            with self.assertRaises(errors.ShapeError) as caught:
                raise made((3, 4))
            self.assertIs(type(caught.exception), made)
            self.assertEqual(getattr(caught.exception, field), (3, 4))


if __name__ == "__main__":
    unittest.main()
