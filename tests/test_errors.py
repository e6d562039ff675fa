"""stilewalks.errors: all classes, their bases and their attributes."""

import unittest

from stilewalks import errors
from tests.helping import ANY, Case

KINDS = {
    "BadRow": ("thing",), "BadScript": ("thing",), "BadRoom": ("thing",), "BadPassage": ("thing",),
    "BadShow": ("thing",), "BadHall": ("thing",), "BadSum": ("thing",), "BadPoint": ("thing",),
    "BadHeights": ("thing",), "BadBook": ("thing",), "BadLetters": ("thing",), "BadNumber": ("thing",),
    "TooLong": ("steps",), "NotClosed": ("thing",), "NotBalanced": ("certificate",), "BadName": ("name",),
    "NoName": ("name",), "Here": ("name",), "BadPromise": ("thing",), "Broken": ("promise", "certificate"),
    "BadText": ("line",), "NothingToUndo": (), "NothingToRedo": (),
}


class Errors(Case):

    def test_just_these_classes(self):
        self.assertEqual(len(KINDS), 23)
        found = [name for name, value in vars(errors).items() if isinstance(value, type)]
        self.assertEqual(sorted(found), sorted(list(KINDS) + ["StileError"]))

    def test_bases(self):
        self.assertEqual(errors.StileError.__bases__, (Exception,))
        for name in KINDS:
            kind = getattr(errors, name)
            self.assertEqual(kind.__bases__, (errors.StileError,), name)
            self.assertEqual((kind.__name__, kind.__module__), (name, "stilewalks.errors"))

    def test_one_parameter(self):
        for name, parameters in KINDS.items():
            if len(parameters) == 1:
                for value in ANY:
                    kind = getattr(errors, name)
                    for error in (kind(value), kind(**{parameters[0]: value})):
                        self.assertEqual(list(vars(error)), list(parameters))
                        self.assertIs(getattr(error, parameters[0]), value)

    def test_two_parameters(self):
        for promise in ANY:
            for certificate in ANY:
                made = (errors.Broken(promise, certificate), errors.Broken(promise, certificate=certificate),
                        errors.Broken(certificate=certificate, promise=promise))
                for error in made:
                    self.assertEqual(sorted(vars(error)), ["certificate", "promise"])
                    self.assertIs(error.promise, promise)
                    self.assertIs(error.certificate, certificate)

    def test_no_parameters(self):
        for error in (errors.NothingToUndo(), errors.NothingToRedo()):
            self.assertEqual(vars(error), {})

    def test_wrong_numbers_of_arguments(self):
        for name, parameters in KINDS.items():
            if parameters:
                kind = getattr(errors, name)
                with self.assertRaises(TypeError):
                    kind()
                with self.assertRaises(TypeError):
                    kind(*([1] * (len(parameters) + 1)))

    def test_caught(self):
        for name, parameters in KINDS.items():
            kind = getattr(errors, name)
            error = kind(*([(True, [1])] * len(parameters)))
            for base in (kind, errors.StileError, Exception):
                with self.assertRaises(base) as caught:
                    raise error
                self.assertIs(caught.exception, error)
            for other in KINDS:
                self.assertEqual(isinstance(error, getattr(errors, other)), other == name)


if __name__ == "__main__":
    unittest.main()
