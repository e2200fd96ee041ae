"""Tests of spareskept.selection.top: 3.1."""

import unittest

from spareskept.errors import InvalidCondition, InvalidNumber, InvalidOrder, InvalidRowset
from spareskept.rows.conditions import satisfies
from spareskept.rows.orders import precedes, sorted_names
from spareskept.selection.top import capped_top_names, filter_rows, group_rows, top_names
from tests.values import E, NOT_CONDITIONS, NOT_ORDERS, NOT_ROWSETS, R, SIXTY
from tests.values import cases, check_errors, check_raises, check_selection, check_steady, holding, numbers_outside
from tests.values import random_rowset, rows_of_width

ORDERS = ((), ((0, 'desc'),), ((1, 'asc'), (0, 'desc')), ((2, 'desc'), (1, 'desc'), (0, 'asc')))
ORDER_CASES = cases(NOT_ORDERS + (((2, 'asc'),),), InvalidOrder)
COUNT_CASES = holding(numbers_outside(1, 9), InvalidNumber, 'value')
COLUMN_CASES = holding(numbers_outside(0, 1), InvalidNumber, 'value')
ROWSET_CASES = cases(NOT_ROWSETS, InvalidRowset)


def capped_reference(rowset, order, count, column, cap):
    """Return the capped top rows in the words of 3.1."""
    rows = {row[0]: row for row in rowset}
    taken = []
    for name in sorted_names(rowset, order):
        same = [other for other in taken if rows[other][2][column] == rows[name][2][column]]
        if len(taken) < count and len(same) < cap:
            taken.append(name)
    return tuple(sorted(taken))


class TopTest(unittest.TestCase):
    def test_top_rows_are_those_that_few_rows_precede(self):
        for seed in range(6):
            rowset = random_rowset(seed, 14, 3)
            for order in ORDERS:
                for count in range(1, 10):
                    expected = tuple(
                        row[0] for row in rowset
                        if sum(precedes(order, other, row) for other in rowset) < count)
                    self.assertEqual(check_steady(self, top_names, rowset, order, count=count), expected)

    def test_ties_are_decided_by_the_name(self):
        rowset = tuple((name, 1, (7,), 1) for name in ('a', 'b', 'c'))
        for direction in ('asc', 'desc'):
            self.assertEqual(top_names(rowset, ((0, direction),), count=2), ('a', 'b'))

    def test_directions(self):
        self.assertEqual(top_names(R, ((0, 'desc'),)), ('ann',))
        self.assertEqual(top_names(R, ((0, 'asc'),)), ('bob',))
        self.assertEqual(top_names(R, ((0, 'desc'),), count=2), ('ann', 'cat'))
        self.assertEqual(top_names(R, ()), ('ann',))

    def test_sizes(self):
        self.assertEqual(top_names((), ((3, 'asc'),), count=9), ())
        self.assertEqual(top_names(R, (), count=3), ('ann', 'bob', 'cat'))
        self.assertEqual(top_names(R, (), count=9), ('ann', 'bob', 'cat'))
        self.assertEqual(top_names(SIXTY, ((1, 'desc'),), count=9), tuple(row[0] for row in SIXTY[51:]))

    def test_the_count_left_out(self):
        for order in ORDERS[:3]:
            self.assertEqual(top_names(R, order), top_names(R, order, count=1))
        self.assertRaises(TypeError, top_names, R, (), 1)

    def test_errors(self):
        check_errors(self, top_names, {0: R, 1: (), 'count': 1}, [
            (0, ROWSET_CASES), (1, ORDER_CASES), ('count', COUNT_CASES)])
        check_raises(self, InvalidOrder, top_names, (), ((4, 'asc'),))

    def test_path_independence(self):
        for seed in range(4):
            for order in ORDERS[:3]:
                for count in (1, 2, 3):
                    rowset = random_rowset(seed, 5, 2, high=2)
                    check_selection(self, lambda rows: top_names(rows, order, count=count), rowset)


class CappedTest(unittest.TestCase):
    def test_capped_rows(self):
        for seed in range(4):
            rowset = random_rowset(seed, 15, 3, low=-1, high=2)
            for order in ORDERS:
                for count in (1, 2, 5, 9):
                    for column in (0, 2):
                        for cap in (1, 2, 5, 9):
                            found = check_steady(
                                self, capped_top_names, rowset, order, count=count, column=column, cap=cap)
                            self.assertEqual(found, capped_reference(rowset, order, count, column, cap))

    def test_a_cap_of_at_least_the_count_caps_nothing(self):
        rowset = random_rowset(1, 20, 2, high=1)
        for count in range(1, 10):
            for cap in range(count, 10):
                found = capped_top_names(rowset, ((1, 'desc'),), count=count, column=0, cap=cap)
                self.assertEqual(found, top_names(rowset, ((1, 'desc'),), count=count))

    def test_sizes(self):
        self.assertEqual(capped_top_names((), ((3, 'asc'),), count=9, column=3, cap=9), ())
        same = tuple((row[0], 1, (5, row[2][1]), 1) for row in SIXTY)
        for cap in range(1, 10):
            found = capped_top_names(same, ((1, 'desc'),), count=9, column=0, cap=cap)
            self.assertEqual(found, tuple(row[0] for row in SIXTY[60 - cap:]))

    def test_keywords(self):
        expected = capped_top_names(E, (), count=3, column=1, cap=2)
        self.assertEqual(capped_top_names(E, (), cap=2, column=1, count=3), expected)
        self.assertEqual(capped_top_names(E, (), column=1, cap=2, count=3), expected)
        self.assertEqual(capped_top_names(E, ()), capped_top_names(E, (), cap=1, column=0, count=1))
        self.assertEqual(capped_top_names(E, (), count=4), ('a', 'b', 'e'))
        self.assertEqual(capped_top_names(E, (), count=4, column=1), ('a', 'b'))
        self.assertEqual(capped_top_names(E, (), count=4, cap=2), ('a', 'b', 'c', 'e'))
        self.assertEqual(capped_top_names(E, (), cap=2), ('a',))
        self.assertRaises(TypeError, capped_top_names, R, (), 1)

    def test_errors(self):
        check_errors(self, capped_top_names, {0: R, 1: (), 'count': 1, 'column': 0, 'cap': 1}, [
            (0, ROWSET_CASES), (1, ORDER_CASES), ('count', COUNT_CASES), ('column', COLUMN_CASES),
            ('cap', COUNT_CASES)])
        check_raises(self, (InvalidNumber, 'value', 4), capped_top_names, (), (), column=4)
        check_raises(self, (InvalidNumber, 'value', 1), capped_top_names, rows_of_width(2, 1), (), column=1)

    def test_path_independence(self):
        for seed in range(4):
            for count, cap in ((1, 1), (2, 1), (3, 2)):
                rowset = random_rowset(seed, 6, 2, high=2)
                check_selection(
                    self, lambda rows: capped_top_names(rows, ((0, 'asc'),), count=count, column=1, cap=cap), rowset)


class GroupTest(unittest.TestCase):
    def test_groups(self):
        a, b, c, d, e = E
        self.assertEqual(list(check_steady(self, group_rows, E, 0).items()), [(1, (a, c, d)), (2, (b,)), (3, (e,))])
        self.assertEqual(list(group_rows(E, 1).items()), [(2, (a,)), (3, (b, c, d, e))])

    def test_the_keys_ascend(self):
        rowset = tuple((name, 1, (value,), 1) for name, value in zip('abcdef', (3, -10 ** 9, 10 ** 9, 0, 3, -1)))
        self.assertEqual(list(group_rows(rowset, 0)), [-10 ** 9, -1, 0, 3, 10 ** 9])
        self.assertEqual(group_rows(rowset, 0)[3], (rowset[0], rowset[4]))

    def test_sizes(self):
        for column in range(4):
            self.assertEqual(group_rows((), column), {})
        self.assertEqual(list(group_rows(SIXTY, 1).values()), [(row,) for row in SIXTY])

    def test_a_returned_dict_belongs_to_the_caller(self):
        first = group_rows(E, 0)
        expected = dict(first)
        first[1] = ()
        first.clear()
        self.assertEqual(group_rows(E, 0), expected)

    def test_errors(self):
        check_errors(self, group_rows, {0: R, 1: 0}, [(0, ROWSET_CASES), (1, COLUMN_CASES)])
        check_raises(self, (InvalidNumber, 'value', 4), group_rows, (), 4)


class FilterTest(unittest.TestCase):
    def test_filter(self):
        rowset = random_rowset(3, 20, 2)
        for condition in (('ge', 0, 2), ('le', 1, 1), ('eq', 0, 3), ('not', ('eq', 0, 3)),
                          ('or', (('eq', 0, 1), ('and', (('ge', 1, 1), ('le', 1, 2))))), ('ge', 0, 9), ('ge', 0, 0)):
            expected = tuple(row for row in rowset if satisfies(row, condition))
            self.assertEqual(check_steady(self, filter_rows, rowset, condition), expected)

    def test_sizes(self):
        self.assertEqual(filter_rows((), ('ge', 3, 0)), ())
        self.assertEqual(filter_rows(SIXTY, ('ge', 0, 0)), SIXTY)
        self.assertEqual(filter_rows(SIXTY, ('ge', 0, 59)), SIXTY[59:])

    def test_errors(self):
        check_errors(self, filter_rows, {0: R, 1: ('ge', 1, 0)}, [
            (0, ROWSET_CASES), (1, cases(NOT_CONDITIONS + (('ge', 2, 0),), InvalidCondition))])
        check_raises(self, InvalidCondition, filter_rows, (), ('ge', 4, 0))


if __name__ == '__main__':
    unittest.main()
