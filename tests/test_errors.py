import unittest

from undotables import errors
from values import ANY_VALUES

ATTRIBUTES = {
    "InvalidName": "name", "InvalidNames": "index", "InvalidAmount": "amount", "InvalidProgram": "index",
    "InvalidText": "text", "InvalidLength": "length", "InvalidCount": "count", "InvalidChanges": "index",
    "InvalidObservations": "index", "InvalidLimit": "value", "InvalidLine": "text", "NotAHistory": "value",
    "NotAProgram": "value", "NotAnEffect": "value",
}


class ErrorsTest(unittest.TestCase):
    def check_attribute(self, kind, attribute, value):
        for error in (kind(value), kind(**{attribute: value})):
            self.assertIs(getattr(error, attribute), value)
            self.assertEqual(list(vars(error)), [attribute])
            with self.assertRaises(kind) as caught:
                raise error
            self.assertIs(caught.exception, error)

    def test_undo_errors_keep_their_attribute(self):
        for name, attribute in ATTRIBUTES.items():
            for value in ANY_VALUES:
                with self.subTest(name=name, value=value):
                    self.check_attribute(getattr(errors, name), attribute, value)

    def test_too_many_discarded_keeps_its_count(self):
        for value in (1, 400, 10 ** 59):
            self.check_attribute(errors.TooManyDiscarded, "count", value)

    def test_state_errors_have_no_attribute(self):
        for kind in (errors.CannotRevert, errors.Busy):
            self.assertEqual(vars(kind()), {})
            with self.assertRaises(kind):
                raise kind()

    def test_wrong_calls(self):
        for name, attribute in ATTRIBUTES.items():
            kind = getattr(errors, name)
            self.assertRaises(TypeError, kind)
            self.assertRaises(TypeError, kind, 1, 2)
            self.assertRaises(TypeError, kind, **{"no" + attribute: 1})

    def test_bases(self):
        for name in ATTRIBUTES:
            self.assertEqual(getattr(errors, name).__bases__, (errors.UndoError,))
        for kind in (errors.CannotRevert, errors.Busy):
            self.assertEqual(kind.__bases__, (errors.StateError,))
        self.assertEqual(errors.TooManyDiscarded.__bases__, (errors.LimitError,))
        self.assertEqual(errors.UndoError.__bases__, (ValueError,))
        self.assertEqual(errors.StateError.__bases__, (LookupError,))
        self.assertEqual(errors.LimitError.__bases__, (ArithmeticError,))

    def test_caught_as_errors_of_python(self):
        with self.assertRaises(ValueError):
            raise errors.InvalidName("A")
        with self.assertRaises(LookupError):
            raise errors.CannotRevert()
        with self.assertRaises(ArithmeticError):
            raise errors.TooManyDiscarded(3)


if __name__ == "__main__":
    unittest.main()
