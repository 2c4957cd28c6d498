"""The refusals: their classes, their fields, and where they stand."""

import unittest

from linkorcut import errors

WITH_FIELD = {
    "NoNumber": "number",
    "Twice": "tie",
    "BadRow": "row",
    "NotThere": "tie",
    "OtherTurn": "side",
    "Over": "winner",
}
WITHOUT_FIELD = ["TooMany", "TooBig", "NoPaper", "NoDeed", "BadLine"]


class Refusals(unittest.TestCase):

    def classes(self):
        return [getattr(errors, name) for name in list(WITH_FIELD) + WITHOUT_FIELD]

    def test_eleven_of_them(self):
        self.assertEqual(len(set(self.classes())), 11)

    def test_any_refusal_stands_under_value_error(self):
        self.assertTrue(issubclass(errors.NetError, ValueError))

    def test_each_stands_straight_under_net_error(self):
        for refusal in self.classes():
            with self.subTest(refusal=refusal.__name__):
                self.assertEqual(refusal.__bases__, (errors.NetError,))

    def test_none_stands_under_another(self):
        for one in self.classes():
            for other in self.classes():
                if one is not other:
                    self.assertFalse(issubclass(one, other), (one, other))

    def test_each_has_its_field(self):
        for name, field in WITH_FIELD.items():
            for value in (0, -1, 10 ** 60, "linker"):
                with self.subTest(refusal=name, value=value):
                    self.assertEqual(getattr(getattr(errors, name)(value), field), value)

    def test_a_field_is_the_object_s_own(self):
        for name, field in WITH_FIELD.items():
            with self.subTest(refusal=name):
                one = getattr(errors, name)(3)
                other = getattr(errors, name)(4)
                self.assertEqual((getattr(one, field), getattr(other, field)), (3, 4))

    def test_fields_are_made_under_their_names(self):
        for name, field in WITH_FIELD.items():
            with self.subTest(refusal=name):
                self.assertEqual(getattr(getattr(errors, name)(**{field: 5}), field), 5)

    def test_those_with_a_field_are_not_made_without(self):
        for name in WITH_FIELD:
            with self.subTest(refusal=name):
                self.assertRaises(TypeError, getattr(errors, name))

    def test_those_without_a_field_are_made_of_nothing(self):
        for name in WITHOUT_FIELD:
            with self.subTest(refusal=name):
                self.assertEqual(vars(getattr(errors, name)()), {})

    def test_each_is_taken_as_net_error_and_as_value_error(self):
        for name in WITH_FIELD:
            for above in (errors.NetError, ValueError):
                with self.subTest(refusal=name, above=above.__name__):
                    with self.assertRaises(above):
                        raise getattr(errors, name)(1)
        for name in WITHOUT_FIELD:
            for above in (errors.NetError, ValueError):
                with self.subTest(refusal=name, above=above.__name__):
                    with self.assertRaises(above):
                        raise getattr(errors, name)()


if __name__ == "__main__":
    unittest.main()
