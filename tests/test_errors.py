"""Tests of spareskept.errors: 0.9 and 0.10."""

import unittest

from spareskept import errors
from tests.values import ODD_VALUES

WITH_MESSAGE = (
    'InvalidRow', 'InvalidRowset', 'InvalidOrder', 'InvalidCondition', 'InvalidMargins', 'InvalidTable',
    'InvalidQuery', 'InvalidTree', 'InvalidStore', 'InvalidMessage', 'InvalidOperation', 'ParseError',
    'InvalidCommand',
)
WITH_VALUE = (
    ('UnknownName', KeyError, 'name'), ('NameConflict', LookupError, 'name'), ('InvalidNumber', IndexError, 'value'),
    ('TooMany', OverflowError, 'limit'), ('BudgetExceeded', RuntimeError, 'cost'),
)


class ErrorsTest(unittest.TestCase):
    def test_base_of_the_errors_with_a_message(self):
        self.assertEqual(errors.SparesError.__bases__, (ValueError,))
        self.assertEqual(str(errors.SparesError('a message')), 'a message')

    def test_errors_with_a_message(self):
        for name in WITH_MESSAGE:
            with self.subTest(name=name):
                kind = getattr(errors, name)
                self.assertEqual(kind.__bases__, (errors.SparesError,))
                self.assertEqual(str(kind('a message')), 'a message')
                with self.assertRaises(errors.SparesError):
                    raise kind('a message')

    def test_errors_with_a_value(self):
        for name, base, attribute in WITH_VALUE:
            kind = getattr(errors, name)
            self.assertEqual(kind.__bases__, (base,))
            self.assertFalse(issubclass(kind, errors.SparesError))
            for value in ODD_VALUES:
                with self.subTest(name=name, value=value):
                    self.assertIs(getattr(kind(value), attribute), value)

    def test_errors_with_a_value_can_be_caught_by_their_bases(self):
        for name, base, attribute in WITH_VALUE:
            with self.assertRaises(base) as caught:
                raise getattr(errors, name)(7)
            self.assertEqual(getattr(caught.exception, attribute), 7)

    def test_every_class_is_listed_and_defined_here(self):
        names = {'SparesError', *WITH_MESSAGE, *[name for name, _, _ in WITH_VALUE]}
        found = {name for name, value in vars(errors).items() if isinstance(value, type)}
        self.assertEqual(found, names)
        for name in names:
            self.assertEqual(getattr(errors, name).__module__, 'spareskept.errors')


if __name__ == '__main__':
    unittest.main()
