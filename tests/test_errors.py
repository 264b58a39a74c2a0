"""Promise [5] and facenumbers/errors.py."""

import inspect
import unittest

from facenumbers import errors
from facenumbers.errors import FaceError
from tests.examples import JUNK

WITH_GIVEN = (
    "InvalidPolytope", "InvalidNumber", "InvalidRow", "InvalidFace", "InvalidMonomial", "InvalidIdeal",
    "InvalidDirection", "InvalidOrdering", "NoSequence", "NoPolytope", "NoFace", "IsFace", "TooMany", "TooLong",
)
WITH_INDEX = ("InvalidSequence", "InvalidText", "InvalidLines")
WITHOUT = ("NotGeneral",)


class Classes(unittest.TestCase):
    def test_all_are_there_and_no_others(self):
        defined = [name for name, value in vars(errors).items() if inspect.isclass(value)]
        self.assertEqual(sorted(defined), sorted(WITH_GIVEN + WITH_INDEX + WITHOUT + ("FaceError",)))
        for name in defined:
            self.assertEqual(getattr(errors, name).__module__, "facenumbers.errors")

    def test_face_error_stands_under_value_error_alone(self):
        self.assertEqual(FaceError.__bases__, (ValueError,))
        self.assertEqual(vars(FaceError()), {})

    def test_all_others_stand_under_face_error_alone(self):
        for name in WITH_GIVEN + WITH_INDEX + WITHOUT:
            self.assertEqual(getattr(errors, name).__bases__, (FaceError,), name)

    def test_no_class_catches_another_one(self):
        names = WITH_GIVEN + WITH_INDEX + WITHOUT
        for name in names:
            for other in names:
                said = issubclass(getattr(errors, name), getattr(errors, other))
                self.assertEqual(said, name == other, (name, other))


class Attributes(unittest.TestCase):
    def kept(self, names, attribute):
        for name in names:
            made = getattr(errors, name)
            for value in JUNK + (1.5, [1, [2]], (1, (2, "x"))):
                self.assertIs(getattr(made(value), attribute), value)
                self.assertIs(getattr(made(**{attribute: value}), attribute), value)
                self.assertEqual(list(vars(made(value))), [attribute])

    def test_given(self):
        self.kept(WITH_GIVEN, "given")

    def test_index(self):
        self.kept(WITH_INDEX, "index")

    def test_without(self):
        self.assertEqual(vars(errors.NotGeneral()), {})

    def test_the_attribute_must_be_told(self):
        for name in WITH_GIVEN + WITH_INDEX:
            with self.assertRaises(TypeError):
                getattr(errors, name)()

    def test_raised_and_caught(self):
        for name in WITH_GIVEN + WITH_INDEX:
            with self.assertRaises(FaceError):
                raise getattr(errors, name)(3)
        with self.assertRaises(ValueError):
            raise errors.NotGeneral()


if __name__ == "__main__":
    unittest.main()
