"""Tests of spareskept.rows.conditions: 2.2."""

import unittest

from spareskept.errors import InvalidCondition, InvalidNumber, InvalidRow
from spareskept.rows.conditions import is_condition, satisfies
from tests.test_orders import NOT_ROWS
from tests.values import NOT_CONDITIONS, NOT_INTEGERS, ODD_VALUES, R
from tests.values import cases, check_bool, check_errors, check_raises, check_steady, holding, numbers_outside, replaced

YES = ('ge', 0, 1)
NO = ('le', 0, 0)
ROW = ('a', 1, (1, -5), 1)


class IsConditionTest(unittest.TestCase):
    def test_comparisons(self):
        for word in ('ge', 'le', 'eq'):
            for width in (1, 2, 3, 4):
                for column in range(-1, 6):
                    self.assertIs(is_condition(width, (word, column, 0)), 0 <= column < width)
            for number in (0, 10 ** 9, -10 ** 9):
                self.assertIs(is_condition(1, (word, 0, number)), True)
            for value in numbers_outside(-10 ** 9, 10 ** 9):
                self.assertIs(is_condition(1, (word, 0, value)), False, value)
            for value in NOT_INTEGERS:
                self.assertIs(is_condition(4, (word, value, 0)), False, value)

    def test_numbers_of_parts(self):
        for word in ('and', 'or'):
            for count in range(7):
                self.assertIs(is_condition(1, (word, (YES,) * count)), 2 <= count <= 4, count)
            self.assertIs(is_condition(1, (word, [YES, NO])), False)
            self.assertIs(is_condition(1, (word, YES, NO)), False)
            self.assertIs(is_condition(1, (word, YES)), False)
            for place in range(3):
                parts = [YES, YES, YES]
                parts[place] = ('ge', 1, 0)
                self.assertIs(is_condition(1, (word, tuple(parts))), False)
                self.assertIs(is_condition(2, (word, tuple(parts))), True)

    def test_nesting(self):
        wraps = (lambda part: ('not', part), lambda part: ('and', (part, YES)), lambda part: ('or', (NO, NO, part)))
        for outer in wraps:
            self.assertIs(is_condition(1, outer(YES)), True)
            for middle in wraps:
                self.assertIs(is_condition(1, outer(middle(YES))), True)
                for inner in wraps:
                    self.assertIs(is_condition(1, outer(middle(inner(YES)))), False)

    def test_not_conditions(self):
        for value in NOT_CONDITIONS:
            self.assertIs(is_condition(4, value), False, value)
            self.assertIs(is_condition(4, ('not', value)), False, value)
            self.assertIs(is_condition(4, ('and', (YES, value))), False, value)

    def test_any_value(self):
        for value in ODD_VALUES:
            self.assertIs(is_condition(4, value), False, value)
        for value in replaced(('and', (('not', YES), ('or', (YES, NO))))):
            check_bool(self, is_condition(2, value))

    def test_width(self):
        check_errors(self, is_condition, {0: 1, 1: YES}, [
            (0, holding(numbers_outside(1, 4), InvalidNumber, 'value'))])
        check_raises(self, (InvalidNumber, 'value', 0), is_condition, 0, None)


class SatisfiesTest(unittest.TestCase):
    def test_comparisons(self):
        for column, value in enumerate(ROW[2]):
            for word, expected in (('ge', (True, True, False)), ('le', (False, True, True)),
                                   ('eq', (False, True, False))):
                found = tuple(check_steady(self, satisfies, ROW, (word, column, value + step)) for step in (-1, 0, 1))
                self.assertEqual(found, expected)

    def test_not(self):
        self.assertIs(satisfies(ROW, ('not', YES)), False)
        self.assertIs(satisfies(ROW, ('not', NO)), True)
        self.assertIs(satisfies(ROW, ('not', ('not', YES))), True)

    def test_and_or(self):
        for count in (2, 3, 4):
            for bits in range(2 ** count):
                parts = tuple(YES if bits >> place & 1 else NO for place in range(count))
                self.assertIs(satisfies(ROW, ('and', parts)), bits == 2 ** count - 1)
                self.assertIs(satisfies(ROW, ('or', parts)), bits != 0)

    def test_nesting(self):
        condition = ('and', (('or', (NO, YES)), ('not', NO), ('eq', 1, -5)))
        self.assertIs(satisfies(ROW, condition), True)
        self.assertIs(satisfies(('a', 1, (0, -5), 1), condition), False)
        self.assertIs(satisfies(('a', 1, (1, -4), 1), condition), False)

    def test_the_condition_is_for_the_width_of_the_row(self):
        check_raises(self, InvalidCondition, satisfies, ('a', 1, (1,), 1), ('ge', 1, 0))
        self.assertIs(satisfies(('a', 1, (1, 2, 3, 4), 1), ('eq', 3, 4)), True)

    def test_errors(self):
        check_errors(self, satisfies, {0: R[0], 1: YES}, [
            (0, cases(NOT_ROWS, InvalidRow)),
            (1, cases(NOT_CONDITIONS + (('ge', 2, 0), ('not', ('not', ('not', YES)))), InvalidCondition))])


if __name__ == '__main__':
    unittest.main()
