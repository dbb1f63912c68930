"""The refusals: what stands under what, and their fields."""

import unittest

from shopbound import errors

WITH_FIELD = {"NoShop": ("part", "benches"), "NoRow": ("row", 7), "Gone": ("step", "cut")}
OF_TEXT = ("NoPlan", "NoTree", "NoName", "NoSay")


def class_named(name):
    return getattr(errors, name)


class ErrorsTest(unittest.TestCase):
    def test_shop_error_is_right_under_value_error(self):
        self.assertEqual(errors.ShopError.__bases__, (ValueError,))

    def test_each_is_right_under_shop_error(self):
        for name in list(WITH_FIELD) + list(OF_TEXT):
            with self.subTest(name):
                self.assertEqual(class_named(name).__bases__, (errors.ShopError,))

    def test_none_is_under_another_one(self):
        every = list(WITH_FIELD) + list(OF_TEXT)
        for one in every:
            for other in every:
                with self.subTest(one=one, other=other):
                    under = issubclass(class_named(one), class_named(other))
                    self.assertEqual(under, one == other)

    def test_fields(self):
        for name, (field, value) in WITH_FIELD.items():
            with self.subTest(name):
                error = class_named(name)(value)
                self.assertEqual(vars(error), {field: value})
                self.assertIs(getattr(error, field), value)
                self.assertIsInstance(error, ValueError)
                self.assertIsInstance(str(error), str)

    def test_those_with_a_field_are_made_of_it_by_its_name(self):
        for name, (field, value) in WITH_FIELD.items():
            with self.subTest(name):
                self.assertEqual(getattr(class_named(name)(**{field: value}), field), value)

    def test_those_of_a_text_have_no_field(self):
        for name in OF_TEXT:
            with self.subTest(name):
                error = class_named(name)("some words")
                self.assertEqual(vars(error), {})
                self.assertEqual(str(error), "some words")

    def test_each_is_taken_as_a_shop_error(self):
        for name in list(WITH_FIELD) + list(OF_TEXT):
            with self.subTest(name):
                with self.assertRaises(errors.ShopError):
                    raise class_named(name)("cut")


if __name__ == "__main__":
    unittest.main()
