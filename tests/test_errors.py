"""Promise 1: the errors of the interface."""

import unittest

from coveredcells import errors

FIELDS = {
    "BadProgram": "row", "NotOnce": "row", "BadField": "place", "BadCell": "name", "BadRun": "index",
    "BadCount": "count", "BadThread": "thread", "Enough": "number", "BadSteps": "steps", "BadSeen": "index",
    "BadText": "line", "BadScript": "line",
}
HUGE = 10 ** 9000
VALUES = [0, -1, HUGE, -HUGE, True, None, "", "programs", "a" * 5000, b"a", (), [HUGE], {"a": HUGE}, object(), 1.5]


class ErrorsTest(unittest.TestCase):
    def test_all_are_direct_subclasses(self):
        self.assertEqual(errors.CellError.__bases__, (ValueError,))
        for name in [*FIELDS, "NoDeed"]:
            self.assertEqual(getattr(errors, name).__bases__, (errors.CellError,), name)

    def test_there_are_thirteen_and_no_more(self):
        found = [name for name, value in vars(errors).items() if isinstance(value, type)]
        self.assertEqual(sorted(found), sorted([*FIELDS, "NoDeed", "CellError"]))
        self.assertEqual(len(found), 14)

    def test_fields_by_position_and_by_name(self):
        for name, field in FIELDS.items():
            made = getattr(errors, name)
            for value in VALUES:
                self.assertIs(getattr(made(value), field), value)
                self.assertIs(getattr(made(**{field: value}), field), value)

    def test_no_field_more_and_none_less(self):
        for name, field in FIELDS.items():
            made = getattr(errors, name)
            self.assertEqual(vars(made(3)), {field: 3})
            for wrong in ((), (1, 2)):
                with self.assertRaises(TypeError):
                    made(*wrong)
            with self.assertRaises(TypeError):
                made(other=1)

    def test_any_value_can_be_shown(self):
        for name in FIELDS:
            for value in VALUES:
                self.assertIsInstance(str(getattr(errors, name)(value)), str)
                self.assertIsInstance(repr(getattr(errors, name)(value)), str)

    def test_messages_tell_what_is_short(self):
        self.assertIn("17", str(errors.BadText(17)))
        self.assertIn("programs", str(errors.BadField("programs")))
        self.assertNotIn("000", str(errors.BadText(HUGE)))

    def test_the_base_takes_any_value(self):
        for value in VALUES:
            self.assertIsInstance(str(errors.CellError(value)), str)
        self.assertEqual(str(errors.CellError("why")), "why")

    def test_no_deed_has_no_field(self):
        self.assertEqual(vars(errors.NoDeed()), {})
        with self.assertRaises(errors.CellError):
            raise errors.NoDeed()

    def test_caught_as_value_errors(self):
        for name in FIELDS:
            with self.assertRaises(ValueError):
                raise getattr(errors, name)(HUGE)
