"""Tests of spareskept.depths.depths: 9.1 and 9.2."""

import unittest

from spareskept.depths.depths import cheapest_exposure, is_exposure, row_depth, row_depths
from spareskept.errors import InvalidQuery, InvalidRowset, UnknownName
from spareskept.queries.select import selected_names
from tests.queries import FORESTS, HULLS, LARGE, NOBODY, QUERIES, SKYLINES, TABLES, TOPS, plain_depths, small_rowsets
from tests.test_select import QUERY_CASES
from tests.test_tables import everything, ordered
from tests.values import E, NOT_NAMES_OF_ROWS, NOT_ROWSETS, ODD_VALUES, Q, R, S, SIXTY
from tests.values import cases, check_bool, check_errors, check_raises, check_steady, cost_of, holding, random_rowset
from tests.values import replaced, subsets

ROWSET_CASES = cases(NOT_ROWSETS, InvalidRowset)
TARGET_CASES = [(0, ROWSET_CASES), (1, QUERY_CASES), (2, holding(NOT_NAMES_OF_ROWS, UnknownName, 'name'))]


def rows_of(rowset, names):
    return tuple(row for row in rowset if row[0] in names)


def without(rowset, names):
    return tuple(row for row in rowset if row[0] not in names)


class DepthTest(unittest.TestCase):
    def check_depths(self, rowset, query):
        """Check all depths of the rowset against every set of rows; return them."""
        depths = check_steady(self, row_depths, rowset, query)
        self.assertEqual(depths, plain_depths(rowset, query), (rowset, query))
        self.assertEqual(list(depths), [row[0] for row in rowset])
        for row in rowset:
            name, depth = row[0], depths[row[0]]
            self.assertEqual(check_steady(self, row_depth, rowset, query, name), depth)
            alone = selected_names((row,), query) == (name,)
            self.assertIs(depth is not None, alone)
            self.assertIs(depth == 0, name in selected_names(rowset, query))
            self.check_exposure(rowset, query, name, depth)
        return depths

    def check_exposure(self, rowset, query, name, depth):
        found = check_steady(self, cheapest_exposure, rowset, query, name)
        if depth is None:
            self.assertIsNone(found)
        else:
            self.assertEqual(found, tuple(sorted(set(found))))
            self.assertNotIn(name, found)
            self.assertEqual(cost_of(rows_of(rowset, found)), depth)
            self.assertIn(name, selected_names(rowset, query, deleted=found))
            self.assertIs(check_steady(self, is_exposure, rowset, query, name, found), True)

    def test_every_query(self):
        for query in QUERIES:
            for rowset in small_rowsets(query, 6):
                self.check_depths(rowset, query)

    def test_larger_sets(self):
        for query in QUERIES[::3]:
            self.check_depths(small_rowsets(query, 9)[2], query)

    def test_a_subset_never_has_a_greater_depth(self):
        for query in QUERIES:
            rowset = small_rowsets(query, 5)[1]
            depths = row_depths(rowset, query)
            for subset in subsets(rowset):
                for name, depth in row_depths(subset, query).items():
                    self.assertIs(depth is None, depths[name] is None)
                    self.assertTrue(depth is None or depth <= depths[name])

    def test_the_empty_rowset(self):
        for query in QUERIES:
            self.assertEqual(row_depths((), query), {})
            check_raises(self, (UnknownName, 'name', 'ann'), row_depth, (), query, 'ann')

    def test_a_returned_dict_belongs_to_the_caller(self):
        for query in (FORESTS[0], TOPS[1], ('union', (Q, Q))):
            first = row_depths(E, query)
            expected = dict(first)
            first.clear()
            first['a'] = 77
            self.assertEqual(row_depths(E, query), expected)
            self.assertEqual(row_depth(E, query, 'a'), expected['a'])

    def test_errors(self):
        check_errors(self, row_depths, {0: R, 1: Q}, TARGET_CASES[:2])
        for function in (row_depth, cheapest_exposure):
            check_errors(self, function, {0: R, 1: Q, 2: 'ann'}, TARGET_CASES)
        for value in ((), None, ('bob',), [1]):
            check_errors(self, is_exposure, {0: R, 1: Q, 2: 'ann', 3: value}, TARGET_CASES)
        for function in (row_depth, cheapest_exposure):
            check_raises(self, InvalidQuery, function, (), ('group', 4, Q), 'ann')


class KindsTest(unittest.TestCase):
    """The words of 9.2, with numbers worked out by hand."""

    def check(self, rowset, query, expected):
        self.assertEqual(row_depths(rowset, query), expected)

    def test_top(self):
        rows = (('a', 4, (0,), 1), ('b', 7, (0,), 1), ('c', 4, (0,), 1), ('d', 1, (0,), 1))
        self.check(rows, ('top', (), 1), {'a': 0, 'b': 4, 'c': 11, 'd': 15})
        self.check(rows, ('top', (), 2), {'a': 0, 'b': 0, 'c': 4, 'd': 8})
        self.check(rows, ('top', (), 3), {'a': 0, 'b': 0, 'c': 0, 'd': 4})
        self.check(rows, ('top', (), 4), {'a': 0, 'b': 0, 'c': 0, 'd': 0})

    def test_skyline(self):
        rows = (('a', 4, (0, 1), 1), ('b', 7, (1, 0), 1), ('c', 2, (2, 2), 1), ('d', 1, (2, 2), 1), ('e', 3, (2, 3), 1))
        self.check(rows, SKYLINES[0], {'a': 0, 'b': 0, 'c': 11, 'd': 11, 'e': 14})

    def test_hull(self):
        self.check(E, ('hull', 0, 1), {'a': 0, 'b': 1, 'c': 0, 'd': 2, 'e': 0})

    def test_forest(self):
        self.check(E, ('forest', 0, 1, ()), {'a': 0, 'b': 0, 'c': 3, 'd': 5, 'e': None})

    def test_where(self):
        rows = (('a', 4, (0,), 1), ('b', 7, (1,), 1), ('c', 2, (0,), 1), ('d', 1, (1,), 1))
        self.check(rows, ('where', ('eq', 0, 1), ('top', (), 1)), {'a': None, 'b': 0, 'c': None, 'd': 7})

    def test_group(self):
        rows = (('a', 4, (0,), 1), ('b', 7, (1,), 1), ('c', 2, (0,), 1), ('d', 1, (1,), 1))
        self.check(rows, ('group', 0, ('top', (), 1)), {'a': 0, 'b': 0, 'c': 4, 'd': 7})

    def test_union(self):
        rows = (('a', 4, (0,), 1), ('b', 7, (1,), 1), ('c', 2, (0,), 1), ('d', 1, (1,), 1))
        last, some = ('top', ((0, 'desc'),), 1), ('where', ('eq', 0, 0), ('top', (), 1))
        self.check(rows, last, {'a': 8, 'b': 0, 'c': 12, 'd': 7})
        self.check(rows, some, {'a': 0, 'b': None, 'c': 4, 'd': None})
        self.check(rows, ('union', (last, some)), {'a': 0, 'b': 0, 'c': 4, 'd': 7})
        self.check(rows, ('union', (some, ('table', NOBODY), last)), {'a': 0, 'b': 0, 'c': 4, 'd': 7})
        self.check(rows, ('union', (some, some)), {'a': 0, 'b': None, 'c': 4, 'd': None})

    def test_table(self):
        rows = tuple((name, cost, (0,), 1) for name, cost in (('a', 4), ('b', 2), ('c', 9), ('d', 3), ('x', 1)))
        table = ordered(('a', 'b', 'c', 'e'), ('bca', 'acb'))
        self.check(rows, ('table', table), {'a': 0, 'b': 0, 'c': 2, 'd': None, 'x': None})
        self.check(rows[1:], ('table', table), {'b': 0, 'c': 0, 'd': None, 'x': None})
        self.check(rows[3:], ('table', table), {'d': None, 'x': None})
        self.check(rows, ('table', everything(('d', 'x', 'z'))), {'a': None, 'b': None, 'c': None, 'd': 0, 'x': 0})
        self.check(rows, ('table', NOBODY), dict.fromkeys('abcdx'))


class CappedTest(unittest.TestCase):
    # The columns: a number for the order, and the group.
    ROWS = (
        ('a', 5, (1, 0), 1), ('b', 3, (2, 0), 1), ('c', 4, (3, 1), 1), ('d', 9, (4, 0), 1), ('e', 2, (5, 1), 1),
        ('f', 6, (6, 2), 1), ('g', 1, (7, 1), 1), ('h', 8, (8, 0), 1),
    )

    def check(self, count, cap, name, expected):
        query = ('capped', ((0, 'asc'),), count, 1, cap)
        self.assertEqual(row_depth(self.ROWS, query, name), expected)
        self.assertEqual(plain_depths(self.ROWS, query)[name], expected)

    def test_several_groups(self):
        # With a cap of 1, the whole group of c, e and g takes one place, and so does f.
        self.check(1, 1, 'h', 5 + 3 + 9 + 4 + 2 + 1 + 6)
        self.check(2, 1, 'h', 5 + 3 + 9 + 6)
        self.check(3, 1, 'h', 5 + 3 + 9)
        self.check(9, 1, 'h', 5 + 3 + 9)

    def test_the_own_group(self):
        self.check(9, 2, 'h', 5 + 3)
        self.check(9, 3, 'h', 3)
        self.check(9, 4, 'h', 0)
        self.check(3, 3, 'h', 3 + 5 + 4 + 2 + 1)

    def test_caps_above_the_count(self):
        for cap in (3, 4, 9):
            self.check(3, cap, 'g', 3 + 4 + 2 + 5)
        self.check(1, 1, 'b', 5)
        self.check(1, 9, 'b', 5)
        self.check(2, 9, 'b', 0)

    def test_all_counts_and_caps(self):
        for seed in range(4):
            rowset = random_rowset(seed, 8, 2, high=1 + seed, cost=(1, 4, 9, 10 ** 6)[seed])
            for count in (1, 2, 3, 4, 7):
                for cap in (1, 2, 3, 9):
                    for column in (0, 1):
                        query = ('capped', ((0, 'asc'),), count, column, cap)
                        self.assertEqual(row_depths(rowset, query), plain_depths(rowset, query), (rowset, query))


class IsExposureTest(unittest.TestCase):
    def test_every_set(self):
        for query in QUERIES:
            rowset = small_rowsets(query, 5)[1]
            for row in rowset:
                for chosen in subsets(rowset):
                    names = tuple(other[0] for other in chosen)
                    expected = row not in chosen and row[0] in selected_names(rowset, query, deleted=names)
                    self.assertIs(is_exposure(rowset, query, row[0], names), expected)

    def test_not_deletion_sets(self):
        self.assertIs(is_exposure(S, Q, 'c', ('a', 'b')), True)
        for value in (('b', 'a'), ('a', 'a', 'b'), ('a', 'b', 'b'), ('a', 'b', 'c'), ('c',), ('a', 'b', 'd'),
                      ['a', 'b'],
                      ('a', 'b', ''), ('a', 'b', None), ('a', ['b']), ('a', ('b',)), {'a': 1, 'b': 1}, 'ab', ('ab',),
                      (('a', 'b'),), None, 1, True, (), ('a',), ('b',), (1, 2)):
            self.assertIs(check_steady(self, is_exposure, S, Q, 'c', value), False, value)
        self.assertIs(is_exposure(S, Q, 'a', ()), True)
        self.assertIs(is_exposure(S, Q, 'a', ('b', 'c')), True)
        self.assertIs(is_exposure(S, Q, 'a', ('a',)), False)
        self.assertIs(is_exposure(S, ('table', NOBODY), 'a', ()), False)

    def test_any_value(self):
        for query in (Q, TABLES[0], HULLS[0], FORESTS[0], SKYLINES[0]):
            rowset = small_rowsets(query, 5)[1] if query != Q else S
            for value in ODD_VALUES:
                name = rowset[-1][0]
                expected = value == () and name in selected_names(rowset, query)
                self.assertIs(is_exposure(rowset, query, name, value), expected, value)
        for value in replaced(('a', 'b')):
            check_bool(self, is_exposure(S, Q, 'c', value))


class SixtyRowsTest(unittest.TestCase):
    def test_sixty_rows(self):
        for query in LARGE:
            rowset = random_rowset(6, 60, 2, high=9, cost=50)
            depths = row_depths(rowset, query)
            chosen = selected_names(rowset, query)
            for row in rowset[::4]:
                name = row[0]
                found = cheapest_exposure(rowset, query, name)
                self.assertIs(depths[name] == 0, name in chosen)
                self.assertIs(depths[name] is None, found is None)
                if found is not None:
                    self.assertIs(is_exposure(rowset, query, name, found), True)
                    self.assertEqual(cost_of(rows_of(rowset, found)), depths[name])
                    # No row of a cheapest set can be kept.
                    for kept in found[::5]:
                        rest = tuple(other for other in found if other != kept)
                        self.assertNotIn(name, selected_names(without(rowset, rest), query))

    def test_sums(self):
        self.assertEqual(row_depth(SIXTY, ('top', (), 1), SIXTY[59][0]), 59 * 60 // 2)
        self.assertEqual(row_depth(SIXTY, ('top', (), 9), SIXTY[59][0]), 51 * 52 // 2)
        self.assertEqual(row_depth(SIXTY, ('capped', (), 9, 0, 9), SIXTY[59][0]), 51 * 52 // 2)
        costly = tuple((name, 10 ** 6, (1,), 1) for name, _, _, _ in SIXTY)
        self.assertEqual(row_depth(costly, Q, SIXTY[59][0]), 59 * 10 ** 6)
        self.assertEqual(row_depth(costly, ('capped', (), 9, 0, 9), SIXTY[59][0]), 51 * 10 ** 6)


if __name__ == '__main__':
    unittest.main()
