import copy
import unittest

from liftwords import errors
from liftwords.errors import LiftError, Stuck, TooGreat

WITH_FIELD = {
    "BadSize": "value", "BadLetters": "place", "BadIndex": "value", "BadNumber": "value", "BadDeed": "place",
    "BadTable": "row", "BadMove": "place", "BadShape": "value", "BadRow": "place", "BadCounts": "value",
    "BadText": "place",
}
WITHOUT_FIELD = ("BadRecording", "OtherSize", "OtherHouse", "NothingLeft")


class Errors(unittest.TestCase):

    def test_what_each_is_derived_from(self):
        self.assertEqual(LiftError.__bases__, (ValueError,))
        self.assertEqual(Stuck.__bases__, (RuntimeError,))
        self.assertEqual(TooGreat.__bases__, (OverflowError,))
        for name in (*WITH_FIELD, *WITHOUT_FIELD):
            with self.subTest(name):
                self.assertEqual(getattr(errors, name).__bases__, (LiftError,))

    def test_all_stand_in_this_file(self):
        for name in (*WITH_FIELD, *WITHOUT_FIELD, "LiftError", "Stuck", "TooGreat"):
            self.assertEqual(getattr(errors, name).__module__, "liftwords.errors")

    def test_fields_by_position_and_by_name(self):
        fields = {**WITH_FIELD, "Stuck": "place", "TooGreat": "most"}
        for name, field in fields.items():
            for value in (0, 7, None, "x", [1], 10 ** 999, True):
                with self.subTest(name, value=value):
                    made = getattr(errors, name)(value)
                    self.assertIs(getattr(made, field), value)
                    self.assertIs(getattr(getattr(errors, name)(**{field: value}), field), value)
                    self.assertEqual(getattr(copy.copy(made), field), value)

    def test_without_fields(self):
        for name in (*WITHOUT_FIELD, "LiftError"):
            made = getattr(errors, name)()
            self.assertIsInstance(made, ValueError)
            self.assertEqual(vars(made), {})
            self.assertIs(type(copy.copy(made)), getattr(errors, name))

    def test_fields_need_a_value(self):
        for name in (*WITH_FIELD, "Stuck", "TooGreat"):
            self.assertRaises(TypeError, getattr(errors, name))

    def test_stuck_and_too_great_are_no_lift_errors(self):
        self.assertNotIsInstance(Stuck(0), ValueError)
        self.assertNotIsInstance(TooGreat(40), ValueError)


if __name__ == "__main__":
    unittest.main()
