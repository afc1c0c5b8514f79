"""[3], [4], [45]: the errors."""

import unittest

from idlewrites import errors
from tests.samples import OBJECTS

ATTRIBUTES = {
    "BadProgram": "place",
    "NoPlace": "place",
    "NoWrite": "place",
    "BadText": "line",
    "BadMeeting": "index",
    "NoName": "name",
    "UnlikeNames": None,
    "BadLot": "index",
    "BadNumbers": None,
    "BadAnswer": "index",
    "UnlikeBones": "place",
    "BadPromise": "index",
    "TooMany": "n",
    "Parted": "parting",
}


class Errors(unittest.TestCase):
    def made(self):
        """An error of each class."""
        for word, attribute in ATTRIBUTES.items():
            made = getattr(errors, word)
            yield word, made() if attribute is None else made((0, 1))

    def test_the_base(self):
        self.assertEqual(errors.IdleError.__bases__, (ValueError,))
        self.assertEqual(vars(errors.IdleError()), {})
        self.assertEqual(vars(errors.IdleError("some words")), {})

    def test_each_is_a_direct_subclass(self):
        for word in ATTRIBUTES:
            with self.subTest(word):
                self.assertEqual(getattr(errors, word).__bases__, (errors.IdleError,))

    def test_each_is_of_no_other_class(self):
        for word, error in self.made():
            for other in ATTRIBUTES:
                with self.subTest(word, other=other):
                    self.assertEqual(isinstance(error, getattr(errors, other)), word == other)
            self.assertIsInstance(error, errors.IdleError)
            self.assertIsInstance(error, ValueError)

    def test_no_other_errors_are_defined(self):
        found = [word for word in vars(errors) if isinstance(vars(errors)[word], type)]
        self.assertEqual(sorted(found), sorted([*ATTRIBUTES, "IdleError"]))

    def test_any_object_by_position_and_by_name(self):
        for word, attribute in ATTRIBUTES.items():
            if attribute is None:
                continue
            for thing in OBJECTS:
                with self.subTest(word, thing=thing):
                    for error in (getattr(errors, word)(thing), getattr(errors, word)(**{attribute: thing})):
                        self.assertEqual(repr(vars(error)), repr({attribute: thing}))
                        self.assertEqual(getattr(error, attribute), thing)

    def test_errors_without_attributes(self):
        for word in ("UnlikeNames", "BadNumbers"):
            self.assertEqual(vars(getattr(errors, word)()), {})

    def test_an_attribute_must_be_passed(self):
        for word, attribute in ATTRIBUTES.items():
            if attribute is not None:
                with self.subTest(word), self.assertRaises(TypeError):
                    getattr(errors, word)()

    def test_each_can_be_raised_and_caught(self):
        for word, error in self.made():
            for caught in (getattr(errors, word), errors.IdleError, ValueError):
                with self.subTest(word, caught=caught), self.assertRaises(caught) as context:
                    raise error
                self.assertIs(context.exception, error)

    def test_each_has_a_wording(self):
        for word, error in self.made():
            with self.subTest(word):
                self.assertIsInstance(str(error), str)


if __name__ == "__main__":
    unittest.main()
