"""The interface: fontfall/errors.py."""

import inspect
import unittest

from fontfall import errors

VALUES = {
    "BadCase": {"word": "face", "number": 3},
    "BadSign": {"place": 4},
    "BadRow": {"place": 5},
    "BadChange": {},
    "BadText": {"row": 6},
}


class ErrorsTest(unittest.TestCase):
    def test_face_error_stands_straight_under_value_error(self):
        self.assertEqual(errors.FaceError.__bases__, (ValueError,))

    def test_the_five_stand_straight_under_face_error(self):
        for name in VALUES:
            with self.subTest(name):
                self.assertEqual(getattr(errors, name).__bases__, (errors.FaceError,))

    def test_no_other_error_is_there(self):
        found = {name for name, _ in inspect.getmembers(errors, inspect.isclass)}
        self.assertEqual(found, {"FaceError", *VALUES})

    def test_each_class_is_defined_in_this_file(self):
        for name in ("FaceError", *VALUES):
            with self.subTest(name):
                self.assertEqual(getattr(errors, name).__module__, "fontfall.errors")

    def test_each_object_has_the_listed_values(self):
        for name, values in VALUES.items():
            with self.subTest(name):
                error = getattr(errors, name)(*values.values())
                self.assertEqual(vars(error), values)

    def test_each_is_caught_as_a_face_error_and_as_a_value_error(self):
        for name, values in VALUES.items():
            for wider in (errors.FaceError, ValueError):
                with self.subTest(name, wider=wider):
                    with self.assertRaises(wider):
                        raise getattr(errors, name)(*values.values())

    def test_none_is_caught_as_another(self):
        for name, values in VALUES.items():
            error = getattr(errors, name)(*values.values())
            for other in VALUES:
                if other != name:
                    with self.subTest(name, other=other):
                        self.assertNotIsInstance(error, getattr(errors, other))


if __name__ == "__main__":
    unittest.main()
