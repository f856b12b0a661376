"""[5]: the errors."""

import unittest

from cellwebs import errors
from cellwebs.errors import CellWebsError, InvalidKnot, InvalidNumber, InvalidRows, InvalidTie, InvalidWeb
from misfits import values

CLASSES = [InvalidWeb, InvalidKnot, InvalidTie, InvalidNumber, InvalidRows]


class Errors(unittest.TestCase):
    def test_value_by_position(self):
        for error in CLASSES:
            for value in values():
                self.assertIs(error(value).value, value)

    def test_value_by_name(self):
        for error in CLASSES:
            for value in values():
                self.assertIs(error(value=value).value, value)

    def test_no_value(self):
        for error in CLASSES:
            self.assertIsNone(error().value)

    def test_the_value_is_held_itself(self):
        told = [1, [2]]
        for error in CLASSES:
            self.assertIs(error(told).value, told)
        self.assertEqual(told, [1, [2]])

    def test_each_object_has_its_own_value(self):
        one, other = InvalidWeb(1), InvalidWeb(2)
        self.assertEqual((one.value, other.value, InvalidWeb().value), (1, 2, None))

    def test_one_argument_at_most(self):
        for error in CLASSES:
            self.assertRaises(TypeError, error, 1, 2)
            self.assertRaises(TypeError, error, other=1)

    def test_bases(self):
        self.assertEqual(CellWebsError.__bases__, (ValueError,))
        for error in CLASSES:
            self.assertEqual(error.__bases__, (CellWebsError,))

    def test_classes_are_different(self):
        self.assertEqual(len(set(CLASSES)), len(CLASSES))
        for error in CLASSES:
            for other in CLASSES:
                self.assertEqual(issubclass(error, other), error is other)

    def test_names_and_module(self):
        names = ["InvalidWeb", "InvalidKnot", "InvalidTie", "InvalidNumber", "InvalidRows"]
        self.assertEqual([error.__name__ for error in CLASSES], names)
        for error in CLASSES + [CellWebsError]:
            self.assertEqual(error.__module__, "cellwebs.errors")
            self.assertIs(getattr(errors, error.__name__), error)

    def test_raised_and_caught(self):
        for error in CLASSES:
            for caught in (error, CellWebsError, ValueError):
                with self.assertRaises(caught) as held:
                    raise error((1, [2]))
                self.assertEqual(held.exception.value, (1, [2]))


if __name__ == "__main__":
    unittest.main()
