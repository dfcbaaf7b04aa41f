import unittest

from heldbest import errors
from tests.helping import FIELDS

SAMPLES = {
    "what": "desk",
    "value": 7,
    "line": 3,
    "fault": ("envy", 2, 1),
    "work": 4097,
    "word": "maybe",
    "target": 1,
    "at": 12,
    "kind": "seeker",
    "number": 5,
    "era": 4,
}


class ErrorsTest(unittest.TestCase):
    def test_held_error_is_a_value_error(self):
        self.assertEqual(errors.HeldError.__bases__, (ValueError,))

    def test_there_are_twenty_classes_derived_directly(self):
        self.assertEqual(len(FIELDS), 20)
        for name in FIELDS:
            with self.subTest(name):
                self.assertEqual(getattr(errors, name).__bases__, (errors.HeldError,))

    def test_each_is_defined_in_this_file(self):
        for name in ("HeldError", *FIELDS):
            self.assertEqual(getattr(errors, name).__module__, "heldbest.errors")

    def test_arguments_are_in_fields(self):
        for name, fields in FIELDS.items():
            with self.subTest(name):
                error = getattr(errors, name)(*[SAMPLES[field] for field in fields])
                for field in fields:
                    self.assertEqual(getattr(error, field), SAMPLES[field])
                    self.assertIs(type(getattr(error, field)), type(SAMPLES[field]))

    def test_arguments_are_taken_by_name(self):
        for name, fields in FIELDS.items():
            with self.subTest(name):
                error = getattr(errors, name)(**{field: SAMPLES[field] for field in fields})
                for field in fields:
                    self.assertEqual(getattr(error, field), SAMPLES[field])

    def test_two_fields_are_not_confused(self):
        self.assertEqual((errors.OutOfRange("x", 1).what, errors.OutOfRange("x", 1).value), ("x", 1))
        for name in ("Down", "Up", "NotSynced"):
            error = getattr(errors, name)("desk", 0)
            self.assertEqual((error.kind, error.number), ("desk", 0))

    def test_a_list_is_kept_as_a_tuple(self):
        for name in ("Unfit", "NotAccepted", "BadStart", "BadSlips"):
            with self.subTest(name):
                fault = ["seeker", 4]
                error = getattr(errors, name)(fault)
                self.assertIs(type(error.fault), tuple)
                fault[1] = 5
                fault.append(6)
                self.assertEqual(error.fault, ("seeker", 4))
                self.assertEqual(fault, ["seeker", 5, 6])

    def test_a_fault_of_one_item(self):
        self.assertEqual(errors.Unfit(["count"]).fault, ("count",))
        self.assertEqual(errors.Unfit(("count",)).fault, ("count",))

    def test_numbers_of_any_size(self):
        self.assertEqual(errors.TooHeavy(7 ** 30).work, 7 ** 30)
        self.assertEqual(errors.OutOfRange("price", -(10 ** 50)).value, -(10 ** 50))

    def test_they_are_raised_and_caught(self):
        for name, fields in FIELDS.items():
            with self.subTest(name):
                with self.assertRaises(ValueError) as caught:
                    raise getattr(errors, name)(*[SAMPLES[field] for field in fields])
                self.assertIsInstance(caught.exception, errors.HeldError)
                self.assertIsInstance(str(caught.exception), str)
