"""[1.1], [1.2]: errors."""

import unittest

from tests.samples import FEED, LOAD, OTHERS
from twoandabell import errors

PLAIN = (
    errors.InvalidLevel, errors.InvalidBook, errors.InvalidState, errors.InvalidQueue, errors.InvalidLoad,
    errors.InvalidStand, errors.InvalidOperation, errors.ParseError,
)
KEEPING = ((errors.InvalidNumber, "number"), (errors.NothingToUndo, "many"), (errors.Stopped, "index"),
           (errors.Parted, "load"))
APART = ((errors.UnknownName, "word", LookupError), (errors.TooMany, "limit", OverflowError))


class Errors(unittest.TestCase):
    def test_bases(self):
        self.assertEqual(errors.BellError.__bases__, (ValueError,))
        for error in (*PLAIN, *[error for error, _ in KEEPING]):
            self.assertEqual(error.__bases__, (errors.BellError,))
        for error, _, base in APART:
            self.assertEqual(error.__bases__, (base,))
            self.assertFalse(issubclass(error, errors.BellError))

    def test_none_is_derived_from_another_one(self):
        every = (*PLAIN, *[error for error, _ in KEEPING], *[error for error, _, _ in APART])
        self.assertEqual(len(set(every)), 14)
        for one in every:
            for other in every:
                self.assertEqual(issubclass(one, other), one == other)

    def test_messages(self):
        for error in (errors.BellError, *PLAIN):
            raised = error("a message")
            self.assertEqual(str(raised), "a message")
            self.assertIsInstance(raised, errors.BellError)
            with self.assertRaises(ValueError):
                raise raised

    def test_kept_values(self):
        rows = [*KEEPING, *[(error, name) for error, name, _ in APART]]
        for error, name in rows:
            for value in (*OTHERS, FEED, LOAD, 10 ** 99, object(), error):
                for raised in (error(value), error(**{name: value})):
                    self.assertIs(getattr(raised, name), value)
                    self.assertIsInstance(str(raised), str)
                    self.assertIsInstance(repr(raised), str)


if __name__ == "__main__":
    unittest.main()
