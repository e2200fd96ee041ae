"""Tests of spareskept.queries.choices: 8.2."""

import unittest

from spareskept.errors import InvalidQuery, InvalidRowset, TooMany
from spareskept.queries.choices import choice_table
from spareskept.queries.select import selected_names
from spareskept.rows.rowsets import keep_rows
from spareskept.tables.orderings import are_orderings, find_orderings
from spareskept.tables.tables import find_violation, is_table, is_violation
from tests.queries import CAPPED, LEAVES, QUERIES, SKYLINES, TOPS, plain_names
from tests.test_select import QUERY_CASES
from tests.test_tables import set_of, table_of
from tests.values import NOT_ROWSETS, Q, R, S
from tests.values import cases, check_errors, check_raises, check_steady, random_rowset, rows_of_width

SEVEN = rows_of_width(7, 2)


def names_of(rowset):
    return tuple(row[0] for row in rowset)


class ChoiceTableTest(unittest.TestCase):
    def test_every_query_and_every_subset(self):
        for query in QUERIES:
            for count in (1, 3, 5):
                rowset = random_rowset(count, count, 2, high=2)
                found = check_steady(self, choice_table, rowset, query)
                self.assertIs(is_table(found), True)
                self.assertEqual(found[0], names_of(rowset))
                for number, choice in enumerate(found[1], 1):
                    subset = keep_rows(rowset, set_of(found[0], number))
                    self.assertEqual(choice, selected_names(subset, query))
                    self.assertEqual(choice, plain_names(subset, query))

    def test_no_violation_without_an_inner_query(self):
        for query in QUERIES:
            for seed in range(3):
                table = choice_table(random_rowset(seed, 6, 2, high=1 + seed), query)
                self.assertIsNone(find_violation(table))
                if seed == 1:
                    self.assertIs(are_orderings(table, find_orderings(table)), True)

    def test_a_query_by_the_table_of_a_query(self):
        for query in LEAVES:
            rowset = random_rowset(9, 5, 2, high=2)
            table = choice_table(rowset, query)
            self.assertEqual(choice_table(rowset, ('table', table)), table)

    def test_an_inner_query(self):
        broken = 0
        for place, query in enumerate(QUERIES):
            for inner in QUERIES[place % 5::5]:
                rowset = random_rowset(place, 4, 2, high=2)
                found = check_steady(self, choice_table, rowset, query, inner=inner)

                def choose(names):
                    rows = keep_rows(rowset, names)
                    return plain_names(keep_rows(rows, plain_names(rows, inner)), query)
                self.assertEqual(found, table_of(names_of(rowset), choose))
                violation = find_violation(found)
                if violation is not None:
                    broken += 1
                    self.assertIs(is_violation(found, violation), True)
        self.assertGreater(broken, 20)

    def test_the_same_query_twice(self):
        for query in QUERIES:
            rowset = random_rowset(8, 5, 2, high=3)
            self.assertEqual(choice_table(rowset, query, inner=query), choice_table(rowset, query))

    def test_a_violation(self):
        rowset = (('a', 1, (0, 1), 1), ('b', 1, (1, 3), 1), ('c', 1, (2, 2), 1))
        table = choice_table(rowset, ('top', ((1, 'desc'),), 1), inner=('top', ((0, 'asc'),), 2))
        self.assertEqual(table, (('a', 'b', 'c'), (('a',), ('b',), ('b',), ('c',), ('c',), ('b',), ('b',))))
        self.assertIsNone(find_violation(table))
        table = choice_table(rowset, ('top', ((1, 'asc'),), 1), inner=('top', ((0, 'desc'),), 2))
        self.assertEqual(table[1], (('a',), ('b',), ('a',), ('c',), ('a',), ('c',), ('c',)))
        self.assertIs(is_violation(table, (('a', 'b', 'c'), ('a', 'c'))), True)

    def test_the_default(self):
        for query in (Q, CAPPED[0], SKYLINES[0]):
            self.assertEqual(choice_table(R, query, inner=None), choice_table(R, query))
        self.assertRaises(TypeError, choice_table, R, Q, Q)

    def test_numbers_of_rows(self):
        for query in QUERIES:
            self.assertEqual(len(choice_table(SEVEN[:6], query)[1]), 63)
            check_raises(self, (TooMany, 'limit', 6), choice_table, SEVEN, query)
            check_raises(self, (TooMany, 'limit', 6), choice_table, SEVEN, query, inner=query)
            check_raises(self, (TooMany, 'limit', 6), choice_table, SEVEN, query, inner=())
            check_raises(self, InvalidRowset, choice_table, (), query)
            check_raises(self, InvalidRowset, choice_table, (), query, inner=query)
            check_raises(self, InvalidRowset, choice_table, (), query, inner=())

    def test_errors(self):
        inner = [(value, error) for value, error in QUERY_CASES if value is not None]
        check_errors(self, choice_table, {0: R, 1: Q}, [(0, cases(NOT_ROWSETS, InvalidRowset)), (1, QUERY_CASES)])
        check_errors(self, choice_table, {0: R, 1: Q, 'inner': Q}, [
            (0, cases(NOT_ROWSETS, InvalidRowset)), (1, QUERY_CASES), ('inner', inner)])
        for value, error in QUERY_CASES:
            check_raises(self, error, choice_table, SEVEN, value)
        check_raises(self, InvalidQuery, choice_table, (), ('group', 4, Q))
        check_raises(self, InvalidQuery, choice_table, S, ('group', 1, Q), inner=Q)
        check_raises(self, InvalidQuery, choice_table, S, Q, inner=TOPS[2])


if __name__ == '__main__':
    unittest.main()
