"""The error classes (point 4) and integers (point 2)."""

from breakerrow import errors
from breakerrow.errors import (BreakerError, InvalidBound, InvalidCall, InvalidIndex, InvalidLog, InvalidOutages,
                               InvalidRow, InvalidText, InvalidTime, InvalidTrains, LimitExceeded)
from breakerrow.rows import Row
from breakerrow.trains import Trains
from breakerrow.wholes import is_integer
from tests.support import NOT_INTEGERS, Case

FIELDS = ((InvalidRow, ("part", "at")), (InvalidTime, ("time",)), (InvalidOutages, ("at",)),
          (InvalidTrains, ("at",)), (InvalidIndex, ("index",)), (InvalidBound, ("part",)), (InvalidLog, ("at",)),
          (InvalidCall, ("call",)), (InvalidText, ("line", "word")), (LimitExceeded, ("limit",)))


class ErrorClasses(Case):

    def test_the_base_is_an_arithmetic_error(self):
        self.assertTrue(issubclass(BreakerError, ArithmeticError))
        self.assertEqual(BreakerError.__module__, "breakerrow.errors")

    def test_all_others_are_direct_subclasses_of_it(self):
        for error, names in FIELDS:
            with self.subTest(error.__name__):
                self.assertEqual(error.__bases__, (BreakerError,))
                self.assertEqual(error.__module__, "breakerrow.errors")
                self.assertIs(getattr(errors, error.__name__), error)

    def test_they_are_constructed_from_their_fields_by_position(self):
        for error, names in FIELDS:
            values = [object() for name in names]
            raised = error(*values)
            for name, value in zip(names, values):
                with self.subTest(error=error.__name__, field=name):
                    self.assertIs(getattr(raised, name), value)

    def test_they_are_constructed_from_their_fields_by_name(self):
        for error, names in FIELDS:
            values = {name: [name] for name in names}
            raised = error(**values)
            for name in names:
                with self.subTest(error=error.__name__, field=name):
                    self.assertIs(getattr(raised, name), values[name])

    def test_one_handler_catches_them_all(self):
        for call in (lambda: Row(None, 1), lambda: Trains(None), lambda: Row([], 1)[0], lambda: Trains([])[0]):
            self.assertRaises(BreakerError, call)
            self.assertRaises(ArithmeticError, call)


class Integers(Case):

    def test_integers(self):
        for value in (0, 1, -1, 10 ** 30, -10 ** 500):
            self.assertIs(is_integer(value), True)
        self.assertIs(is_integer(value=7), True)

    def test_all_other_objects_are_none(self):
        for value in NOT_INTEGERS:
            with self.subTest(value=value):
                self.assertIs(is_integer(value), False)
