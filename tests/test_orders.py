"""Tests of spareskept.rows.orders: 2.1."""

import unittest

from spareskept.errors import InvalidNumber, InvalidOrder, InvalidRow, InvalidRowset
from spareskept.rows.orders import is_order, precedes, sorted_names
from tests.values import NOT_INTEGERS, NOT_ORDERS, NOT_ROWSETS, ODD_VALUES, R, SIXTY
from tests.values import cases, check_bool, check_errors, check_raises, check_steady, holding, numbers_outside
from tests.values import random_rowset, replaced

NOT_ROWS = (
    None, 1, True, 'ann', (), [], list(R[0]), R, ('a', 0, (1, 2), 1), ('a', 1, [1, 2], 1), ('a', True, (1, 2), 1),
)


class IsOrderTest(unittest.TestCase):
    def test_orders(self):
        full = tuple((column, 'asc') for column in range(4))
        for width in (1, 2, 3, 4):
            self.assertIs(is_order(width, ()), True)
            for count in range(5):
                self.assertIs(is_order(width, full[:count]), count <= width)
        self.assertIs(is_order(4, ((3, 'desc'), (0, 'asc'), (2, 'desc'), (1, 'desc'))), True)

    def test_columns(self):
        for width in (1, 2, 3, 4):
            for column in range(-2, 6):
                self.assertIs(is_order(width, ((column, 'desc'),)), 0 <= column < width)

    def test_not_orders(self):
        for value in NOT_ORDERS:
            self.assertIs(is_order(4, value), False, value)

    def test_columns_are_integers(self):
        for value in NOT_INTEGERS:
            self.assertIs(is_order(4, ((value, 'asc'),)), False, value)
            self.assertIs(is_order(4, ((2, 'asc'), (value, 'asc'))), False, value)

    def test_directions(self):
        for value in ('', 'ASC', 'ascending', 'as', 'up', None, True, 1, ('asc',), ['asc'], {'asc': 1}):
            self.assertIs(is_order(2, ((0, value),)), False, value)

    def test_any_value(self):
        for value in ODD_VALUES:
            self.assertIs(is_order(4, value), value == (), value)
        for value in replaced(((1, 'asc'), (0, 'desc'))):
            check_bool(self, is_order(2, value))

    def test_width(self):
        check_errors(self, is_order, {0: 1, 1: ()}, [
            (0, holding(numbers_outside(1, 4), InvalidNumber, 'value'))])
        check_raises(self, (InvalidNumber, 'value', 5), is_order, 5, None)


class PrecedesTest(unittest.TestCase):
    def test_both_directions(self):
        low, high = ('b', 9, (1, 5), 9), ('a', 1, (2, 5), 1)
        for order, first, second, expected in (
                (((0, 'asc'),), low, high, True), (((0, 'asc'),), high, low, False),
                (((0, 'desc'),), low, high, False), (((0, 'desc'),), high, low, True)):
            self.assertIs(check_steady(self, precedes, order, first, second), expected)

    def test_negative_values(self):
        low, high = ('b', 1, (-10 ** 9,), 1), ('a', 1, (10 ** 9,), 1)
        self.assertIs(precedes(((0, 'asc'),), low, high), True)
        self.assertIs(precedes(((0, 'desc'),), low, high), False)

    def test_the_name_decides_ties(self):
        first, second = ('a', 9, (1, 7), 9), ('b', 1, (1, 3), 1)
        for order in ((), ((0, 'asc'),), ((0, 'desc'),)):
            self.assertIs(precedes(order, first, second), True)
            self.assertIs(precedes(order, second, first), False)

    def test_several_columns(self):
        first, second = ('b', 1, (1, 2, 3), 1), ('a', 1, (1, 4, 0), 1)
        for order, expected in ((((0, 'asc'), (1, 'asc'), (2, 'asc')), True), (((0, 'asc'), (2, 'asc')), False),
                                (((0, 'desc'), (1, 'desc'), (2, 'desc')), False), (((2, 'desc'), (1, 'desc')), True)):
            self.assertIs(precedes(order, first, second), expected)
            self.assertIs(precedes(order, second, first), not expected)

    def test_versions_of_one_row(self):
        row = ('a', 1, (1, 2), 1)
        for other in (row, ('a', 2, (1, 2), 1), ('a', 1, (1, 2), 2), ('a', 1, (1, 9), 1)):
            for order in ((), ((0, 'asc'),), ((0, 'desc'),)):
                self.assertIs(precedes(order, row, other), False)
                self.assertIs(precedes(order, other, row), False)
        self.assertIs(precedes(((1, 'asc'),), row, ('a', 1, (1, 9), 1)), True)
        self.assertIs(precedes(((1, 'desc'),), ('a', 1, (1, 9), 1), row), True)

    def test_errors(self):
        narrow, wide = ('a', 1, (1,), 1), ('a', 1, (1, 2, 3), 1)
        check_errors(self, precedes, {0: ((1, 'asc'),), 1: R[0], 2: R[1]}, [
            (1, cases(NOT_ROWS, InvalidRow)), (2, cases(NOT_ROWS + (narrow, wide), InvalidRow)),
            (0, cases(NOT_ORDERS + (((2, 'asc'),),), InvalidOrder))])
        check_raises(self, InvalidRow, precedes, (), narrow, R[1])
        check_raises(self, InvalidOrder, precedes, ((1, 'asc'),), narrow, narrow)


class SortedNamesTest(unittest.TestCase):
    def test_orders(self):
        for order, names in (((), 'ann bob cat'), (((0, 'asc'),), 'bob cat ann'), (((0, 'desc'),), 'ann cat bob'),
                             (((1, 'asc'),), 'ann cat bob'), (((1, 'desc'), (0, 'asc')), 'bob cat ann')):
            self.assertEqual(check_steady(self, sorted_names, R, order), tuple(names.split()))

    def test_each_row_before_those_that_it_precedes(self):
        for seed in range(10):
            rowset = random_rowset(seed, 12, 3, high=2)
            for order in ((), ((1, 'desc'),), ((2, 'asc'), (0, 'desc')), ((0, 'asc'), (1, 'asc'), (2, 'desc'))):
                rows = {row[0]: row for row in rowset}
                names = sorted_names(rowset, order)
                self.assertEqual(sorted(names), sorted(rows))
                for index, name in enumerate(names):
                    for later in names[index + 1:]:
                        self.assertIs(precedes(order, rows[name], rows[later]), True)
                        self.assertIs(precedes(order, rows[later], rows[name]), False)

    def test_sizes(self):
        self.assertEqual(sorted_names((), ((3, 'asc'),)), ())
        self.assertEqual(sorted_names(SIXTY, ((1, 'desc'),)), tuple(row[0] for row in SIXTY[::-1]))

    def test_errors(self):
        check_errors(self, sorted_names, {0: R, 1: ()}, [
            (0, cases(NOT_ROWSETS, InvalidRowset)), (1, cases(NOT_ORDERS + (((2, 'asc'),),), InvalidOrder))])
        for value in NOT_ORDERS:
            check_raises(self, InvalidOrder, sorted_names, (), value)


if __name__ == '__main__':
    unittest.main()
