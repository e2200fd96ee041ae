"""Tests of spareskept.queries.select: 8.1 and the path-independence of 0.8."""

import unittest

from spareskept.errors import InvalidQuery, InvalidRowset, UnknownName
from spareskept.queries.select import selected_names
from spareskept.rows.rowsets import remove_rows
from tests.queries import BLOCK, CAPPED, HULLS, LARGE, LEAVES, NAMES, NESTED, QUERIES, TOPS, plain_names
from tests.test_forms import NOT_QUERIES
from tests.test_tables import everything
from tests.values import NOT_ROWSETS, Q, R, S, SIXTY
from tests.values import cases, check_errors, check_raises, check_selection, check_steady, holding, random_rowset
from tests.values import random_source, subsets

QUERY_CASES = cases(NOT_QUERIES + (('group', 2, Q), ('hull', 0, 2)), InvalidQuery)
NOT_DELETED = (None, 1, True, '', 'ann', [], ['ann'], {}, {'ann': 1})
NOT_ELEMENTS = ('zoe', '', 'Ann', None, 1, True, (), ('ann',), ['ann'], {'ann': 1})
DELETED_CASES = holding(NOT_DELETED, UnknownName, 'name') + [
    (('bob', name, 'x'), (UnknownName, 'name', name)) for name in NOT_ELEMENTS]


class SelectedTest(unittest.TestCase):
    def test_every_query(self):
        for query in QUERIES:
            for seed in range(6):
                rowset = random_rowset(seed, 3 + 2 * seed % 7, 2, low=-1, high=1 + seed % 3)
                self.assertEqual(check_steady(self, selected_names, rowset, query), plain_names(rowset, query), query)

    def test_some_rows_are_selected_and_some_are_not(self):
        for query in LEAVES[:-1] + NESTED[:6]:
            counts = set()
            for seed in range(30):
                rowset = random_rowset(seed, 12, 2, high=4)
                chosen = selected_names(rowset, query)
                self.assertEqual(chosen, tuple(sorted(set(chosen))))
                counts.add(len(chosen))
            self.assertTrue(max(counts) > 0 and min(counts) < 12, query)

    def test_larger_rowsets(self):
        for query in LARGE:
            rowset = random_rowset(2, 22, 2, high=5)
            self.assertEqual(selected_names(rowset, query), plain_names(rowset, query))
            self.assertEqual(len(selected_names(SIXTY, query)), len(set(selected_names(SIXTY, query))))
        self.assertEqual(selected_names(SIXTY, TOPS[0]), ('aa',))
        self.assertEqual(selected_names(SIXTY, ('group', 0, Q)), tuple(row[0] for row in SIXTY))
        self.assertEqual(selected_names(SIXTY, ('capped', ((1, 'desc'),), 9, 0, 1)),
                         tuple(row[0] for row in SIXTY[51:]))

    def test_the_empty_rowset(self):
        for query in QUERIES + (('hull', 3, 2), ('group', 3, ('forest', 2, 3, ((1, 'asc'),)))):
            self.assertEqual(check_steady(self, selected_names, (), query), ())
            self.assertEqual(selected_names((), query, deleted=()), ())

    def test_path_independence(self):
        for query in QUERIES:
            for seed in (1, 2):
                check_selection(
                    self, lambda rows: selected_names(rows, query), random_rowset(seed, 5, 2, high=1 + seed))

    def test_tables_and_other_names(self):
        rows = tuple((name, 1, (1,), 1) for name in ('a', 'b', 'bb', 'c', 'x'))
        table = everything(('b', 'c', 'd'))
        self.assertEqual(selected_names(rows, ('table', table)), ('b', 'c'))
        self.assertEqual(selected_names(rows[:1] + rows[4:], ('table', table)), ())
        self.assertEqual(selected_names(rows, ('table', (('b', 'x'), (('b',), ('x',), ('x',))))), ('x',))

    def test_an_inner_query_sees_only_the_rows_of_its_part(self):
        rows = (('a', 1, (0, 5), 1), ('b', 1, (1, 9), 1), ('c', 1, (1, 2), 1))
        best = ('top', ((1, 'desc'),), 1)
        self.assertEqual(selected_names(rows, ('where', ('le', 1, 8), best)), ('a',))
        self.assertEqual(selected_names(rows, ('group', 0, best)), ('a', 'b'))
        self.assertEqual(selected_names(rows, ('group', 1, best)), ('a', 'b', 'c'))
        self.assertEqual(selected_names(rows, ('where', ('eq', 0, 7), best)), ())

    def test_a_union_selects_each_row_once(self):
        self.assertEqual(selected_names(S, ('union', (Q, Q, Q, Q))), ('a',))
        self.assertEqual(selected_names(S, ('union', (('top', ((0, 'desc'),), 1), Q))), ('a', 'c'))


class DeletedTest(unittest.TestCase):
    def test_every_set(self):
        for query in QUERIES:
            rowset = random_rowset(4, 6, 2, high=2)
            for rows in subsets(rowset)[::5] + [rowset]:
                names = tuple(row[0] for row in rows)
                expected = plain_names([row for row in rowset if row not in rows], query)
                self.assertEqual(check_steady(self, selected_names, rowset, query, deleted=names), expected)
                self.assertEqual(selected_names(rowset, query, deleted=names[::-1] + names[:2]), expected)
                self.assertEqual(selected_names(remove_rows(rowset, names), query), expected)

    def test_any_order(self):
        names = list(NAMES[1:5])
        rowset = random_rowset(7, 9, 2)
        for seed in range(5):
            random_source(seed).shuffle(names)
            for query in (CAPPED[1], HULLS[0], ('table', BLOCK)):
                self.assertEqual(
                    selected_names(rowset, query, deleted=tuple(names * 2)),
                    plain_names([row for row in rowset if row[0] not in names], query))

    def test_all_rows(self):
        for query in QUERIES:
            self.assertEqual(selected_names(R, query, deleted=('cat', 'ann', 'bob')), ())

    def test_the_default(self):
        for query in QUERIES:
            self.assertEqual(selected_names(R, query), selected_names(R, query, deleted=()))
        self.assertRaises(TypeError, selected_names, R, Q, ())

    def test_errors(self):
        check_errors(self, selected_names, {0: R, 1: Q, 'deleted': ('ann', 'ann')}, [
            (0, cases(NOT_ROWSETS, InvalidRowset)), (1, QUERY_CASES), ('deleted', DELETED_CASES)])
        check_raises(self, (UnknownName, 'name', 'x'), selected_names, R, Q, deleted=('ann', 'x', 'y'))
        check_raises(self, (UnknownName, 'name', 'a'), selected_names, (), Q, deleted=('a',))
        check_raises(self, InvalidQuery, selected_names, (), ('group', 4, Q))


if __name__ == '__main__':
    unittest.main()
