"""The error classes: their base classes and their attributes."""

import unittest

from turnprimes import errors

PLAIN = ["InvalidNumber", "InvalidTurn", "InvalidWord", "InvalidQuestion", "NothingToUndo", "NothingToRedo"]
WITH_ATTRIBUTE = {
    "UnknownName": ("name", "q1"),
    "InvalidNotation": ("line", 3),
    "InvalidPaper": ("line", 1),
    "TooMany": ("limit", 0),
    "NameInUse": ("name", "r"),
}


class ErrorsTest(unittest.TestCase):
    def test_base_class_is_a_value_error(self):
        self.assertEqual(errors.TurnprimesError.__bases__, (ValueError,))

    def test_all_others_derive_from_the_base_class_alone(self):
        for name in PLAIN + list(WITH_ATTRIBUTE):
            with self.subTest(name):
                self.assertEqual(getattr(errors, name).__bases__, (errors.TurnprimesError,))

    def test_plain_ones_can_be_raised_and_caught_as_the_base(self):
        for name in PLAIN:
            with self.subTest(name):
                with self.assertRaises(errors.TurnprimesError) as caught:
                    raise getattr(errors, name)("why")
                self.assertEqual(str(caught.exception), "why")

    def test_attributes_are_set_when_the_object_is_created(self):
        for name, (attribute, value) in WITH_ATTRIBUTE.items():
            with self.subTest(name):
                error = getattr(errors, name)(value)
                self.assertEqual(vars(error), {attribute: value})
                self.assertEqual(vars(getattr(errors, name)(**{attribute: value})), {attribute: value})
                self.assertIn(str(value), str(error))


if __name__ == "__main__":
    unittest.main()
