"""The heading oneofeach/errors.py of the interface."""

import unittest

from oneofeach.errors import (
    CensusError, DuplicateName, InvalidPaper, SyntaxFault, TooManyLayers, UnknownName, WrongArity,
)

ATTRIBUTES = [
    (SyntaxFault, "place", 12),
    (UnknownName, "name", "edge"),
    (DuplicateName, "name", "edge"),
    (WrongArity, "name", "edge"),
    (TooManyLayers, "count", 4097),
    (InvalidPaper, "line", 1),
]


class ErrorsTest(unittest.TestCase):

    def test_attributes_are_the_parameters(self):
        for error, attribute, worth in ATTRIBUTES:
            with self.subTest(error=error.__name__):
                self.assertEqual(getattr(error(worth), attribute), worth)
                self.assertEqual(getattr(error(**{attribute: worth}), attribute), worth)
                with self.assertRaises(TypeError):
                    error()
                with self.assertRaises(TypeError):
                    error(worth, worth)

    def test_no_other_attributes(self):
        for error, attribute, worth in ATTRIBUTES:
            self.assertEqual(vars(error(worth)), {attribute: worth})

    def test_base_classes(self):
        self.assertEqual(CensusError.__bases__, (ValueError,))
        for error, attribute, worth in ATTRIBUTES:
            with self.subTest(error=error.__name__):
                self.assertTrue(issubclass(error, CensusError))
                self.assertTrue(issubclass(error, ValueError))

    def test_none_is_derived_from_another_one(self):
        classes = [error for error, attribute, worth in ATTRIBUTES]
        for one in classes:
            for other in classes:
                self.assertEqual(issubclass(one, other), one is other)

    def test_raised_and_caught(self):
        for error, attribute, worth in ATTRIBUTES:
            for caught in (error, CensusError, ValueError):
                with self.subTest(error=error.__name__, caught=caught.__name__):
                    with self.assertRaises(caught) as held:
                        raise error(worth)
                    self.assertIs(type(held.exception), error)
                    self.assertEqual(getattr(held.exception, attribute), worth)

    def test_messages(self):
        for error, attribute, worth in ATTRIBUTES:
            self.assertNotEqual(str(error(worth)), "")

    def test_message_of_a_count_that_python_does_not_write(self):
        self.assertNotEqual(str(TooManyLayers(10 ** 5000)), "")


if __name__ == "__main__":
    unittest.main()
