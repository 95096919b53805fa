"""Section 1 and point 4: the errors."""

import unittest

from ditherdepths import errors

FIELDS = {
    "InvalidLevels": "level", "InvalidPlates": "item", "InvalidConditions": "item", "InvalidSeen": "item",
    "InvalidText": "part", "TooDeep": "most", "OverInk": "count",
}
PLAIN = [
    "InvalidScreen", "InvalidShade", "InvalidWindow", "InvalidPlace", "InvalidSide", "InvalidKind",
    "InvalidNumber", "InvalidRows", "InvalidLimit", "InvalidOperation", "Nothing", "InvalidCommand",
]


class ErrorsTest(unittest.TestCase):
    def test_each_is_a_dither_error_and_so_a_value_error(self):
        self.assertTrue(issubclass(errors.DitherError, ValueError))
        for name in [*FIELDS, *PLAIN]:
            self.assertTrue(issubclass(getattr(errors, name), errors.DitherError), name)

    def test_none_is_a_subclass_of_another_one(self):
        classes = [getattr(errors, name) for name in [*FIELDS, *PLAIN]]
        for one in classes:
            for other in classes:
                self.assertEqual(issubclass(one, other), one is other, (one, other))

    def test_there_are_no_further_errors(self):
        found = [name for name, value in vars(errors).items() if isinstance(value, type)]
        self.assertEqual(sorted(found), sorted(["DitherError", *FIELDS, *PLAIN]))

    def test_fields_take_their_value(self):
        for name, field in FIELDS.items():
            for value in (None, 0, 1, 50, 399, 10 ** 60):
                error = getattr(errors, name)(value)
                self.assertEqual(getattr(error, field), value)
                self.assertEqual(vars(error), {field: value})
                self.assertTrue(str(error))

    def test_fields_take_just_one_value(self):
        for name in FIELDS:
            with self.assertRaises(TypeError):
                getattr(errors, name)()
            with self.assertRaises(TypeError):
                getattr(errors, name)(0, 1)

    def test_the_others_take_a_string(self):
        for name in ["DitherError", *PLAIN]:
            self.assertEqual(str(getattr(errors, name)("what is wrong")), "what is wrong")

    def test_they_are_raised_and_caught(self):
        for name, field in FIELDS.items():
            with self.assertRaises(ValueError) as caught:
                raise getattr(errors, name)(7)
            self.assertEqual(getattr(caught.exception, field), 7)
        for name in PLAIN:
            with self.assertRaises(errors.DitherError):
                raise getattr(errors, name)("wrong")


if __name__ == "__main__":
    unittest.main()
