"""Promise 1: the errors, their bases and their attributes."""

import unittest

from sourwright import errors

ATTRIBUTES = {
    "InvalidProgram": ("word", "procedure", "place"),
    "InvalidText": ("line",),
    "InvalidStart": ("word", "index"),
    "TooLong": ("steps",),
    "InvalidCode": ("word", "procedure", "row"),
    "NoRoom": ("procedure", "number"),
    "InvalidPart": ("word", "index"),
    "LinkRefused": ("part", "used", "caller"),
    "InvalidCommand": (),
    "Unfilled": ("procedure", "place", "carrier", "answers"),
    "UnknownName": ("name",),
}
VALUES = (
    0, -1, 10 ** 30, "", "two words\n", "{x} \\", True, False, None, (),
    (1, ("a", (True, (None, (("deep",),)))),), ("milk", 8), ["list"], {"a": 1},
)


class ErrorsTest(unittest.TestCase):
    def test_keeps_values_by_position(self):
        for name, attributes in ATTRIBUTES.items():
            for shift in range(len(VALUES)):
                values = [VALUES[(shift + at) % len(VALUES)] for at in range(len(attributes))]
                error = getattr(errors, name)(*values)
                for attribute, value in zip(attributes, values):
                    self.assertIs(getattr(error, attribute), value)

    def test_keeps_values_by_keyword(self):
        for name, attributes in ATTRIBUTES.items():
            for shift in range(len(VALUES)):
                values = {key: VALUES[(shift + at) % len(VALUES)] for at, key in enumerate(attributes)}
                error = getattr(errors, name)(**values)
                for attribute, value in values.items():
                    self.assertIs(getattr(error, attribute), value)

    def test_takes_no_other_number_of_values(self):
        for name, attributes in ATTRIBUTES.items():
            error_class = getattr(errors, name)
            if attributes:
                with self.assertRaises(TypeError):
                    error_class(*range(len(attributes) + 1))
                with self.assertRaises(TypeError):
                    error_class(*range(len(attributes) - 1))

    def test_bases(self):
        self.assertTrue(issubclass(errors.SourError, ValueError))
        for name in ATTRIBUTES:
            error_class = getattr(errors, name)
            base = KeyError if name == "UnknownName" else errors.SourError
            self.assertEqual(error_class.__bases__, (base,))

    def test_is_no_other_of_these_errors(self):
        for name, attributes in ATTRIBUTES.items():
            error = getattr(errors, name)(*attributes)
            for other in ATTRIBUTES:
                self.assertEqual(isinstance(error, getattr(errors, other)), name == other)
            self.assertEqual(isinstance(error, errors.SourError), name != "UnknownName")
            self.assertEqual(isinstance(error, ValueError), name != "UnknownName")
            self.assertEqual(isinstance(error, KeyError), name == "UnknownName")

    def test_is_raised_and_caught_by_its_bases(self):
        with self.assertRaises(errors.SourError):
            raise errors.InvalidCommand()
        with self.assertRaises(ValueError):
            raise errors.TooLong(steps=81)
        with self.assertRaises(KeyError):
            raise errors.UnknownName("x")


if __name__ == "__main__":
    unittest.main()
