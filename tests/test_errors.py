"""Points 7 and 9: the error classes."""

import unittest

from paystreams import errors
from tests.samples import values_of_every_kind

PLAIN = ["ByZero", "BadText", "BadSystem", "BadTable", "Clash", "UnlikeBooks", "NothingToUndo", "NothingToRedo"]
GIVEN = [
    "BadNumber", "BadName", "BadAmount", "BadInlet", "BadStream", "BadWish", "BadDays", "NoAccount", "NoStream",
    "InUse", "TooMuch", "BadSight", "BadDeed",
]
ATTRIBUTES = {**{name: "given" for name in GIVEN}, "BadLine": "line"}


class FamilyTest(unittest.TestCase):
    def test_stream_error_is_a_direct_subclass_of_value_error(self):
        self.assertEqual(errors.StreamError.__bases__, (ValueError,))

    def test_all_others_are_direct_subclasses_of_stream_error(self):
        for name in [*PLAIN, *ATTRIBUTES]:
            with self.subTest(name):
                self.assertEqual(getattr(errors, name).__bases__, (errors.StreamError,))

    def test_there_are_just_the_listed_classes_and_all_are_defined_here(self):
        classes = {name: value for name, value in vars(errors).items() if isinstance(value, type)}
        self.assertEqual(sorted(classes), sorted(["StreamError", *PLAIN, *ATTRIBUTES]))
        for name, value in classes.items():
            self.assertEqual((value.__module__, value.__name__), ("paystreams.errors", name))


class CreationTest(unittest.TestCase):
    def test_errors_without_attributes(self):
        for name in PLAIN:
            with self.subTest(name), self.assertRaises(errors.StreamError) as caught:
                raise getattr(errors, name)()
            self.assertEqual(vars(caught.exception), {})

    def test_the_very_value_is_kept_by_position_and_by_name(self):
        for name, attribute in ATTRIBUTES.items():
            for value in values_of_every_kind():
                with self.subTest(name=name, value=value):
                    error_class = getattr(errors, name)
                    self.assertIs(getattr(error_class(value), attribute), value)
                    self.assertIs(getattr(error_class(**{attribute: value}), attribute), value)

    def test_only_the_listed_attribute_is_set(self):
        for name, attribute in ATTRIBUTES.items():
            self.assertEqual(vars(getattr(errors, name)(3)), {attribute: 3})

    def test_a_value_that_cannot_be_shown_is_kept(self):
        deep = []
        for _ in range(100000):
            deep = [deep]
        for name, attribute in ATTRIBUTES.items():
            self.assertIs(getattr(getattr(errors, name)(deep), attribute), deep)

    def test_the_value_is_needed_and_the_only_one(self):
        for name in ATTRIBUTES:
            with self.subTest(name):
                self.assertRaises(TypeError, getattr(errors, name))
                self.assertRaises(TypeError, getattr(errors, name), 1, 2)

    def test_each_is_caught_by_its_own_name_alone(self):
        for name in [*PLAIN, *ATTRIBUTES]:
            error = getattr(errors, name)(*([1] if name in ATTRIBUTES else []))
            caught = [other for other in [*PLAIN, *ATTRIBUTES] if isinstance(error, getattr(errors, other))]
            self.assertEqual(caught, [name])


if __name__ == "__main__":
    unittest.main()
