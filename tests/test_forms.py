"""Tests of spareskept.queries.forms: 8.1."""

import unittest

from spareskept.errors import InvalidNumber
from spareskept.queries.forms import MAX_NESTING, is_query
from tests.queries import BLOCK, LEAVES, QUERIES
from tests.test_tables import NOT_TABLES, SECOND, SECOND_ALONE, FIRST_ALONE, everything
from tests.values import NOT_CONDITIONS, NOT_INTEGERS, NOT_MARGINS, NOT_ORDERS, ODD_VALUES, Q, T
from tests.values import check_bool, check_errors, check_raises, check_steady, holding, nested, numbers_outside
from tests.values import replaced

TOP = ('top', (), 1)
WRAPS = (
    lambda query: ('where', ('ge', 0, 0), query), lambda query: ('group', 0, query),
    lambda query: ('union', (query, TOP)), lambda query: ('union', (TOP, TOP, TOP, query)),
)

NOT_COUNTS = numbers_outside(1, 9)
NOT_COLUMNS = numbers_outside(0, 1)
NOT_QUERIES = (
    None, 1, True, 'top', (), [], {}, ('top',), ('top', ()), ('top', (), 1, 1), ['top', (), 1], ('Top', (), 1),
    ('bottom', (), 1), (None, (), 1), (['top'], (), 1), (('top',), (), 1), ({}, (), 1), (1, (), 1), ('', (), 1),
    ('capped', (), 1), ('capped', (), 1, 0), ('capped', (), 1, 0, 1, 1), ('where', ('ge', 0, 1)), ('where', TOP),
    ('where', TOP, ('ge', 0, 1)), ('where', ('ge', 0, 1), TOP, TOP), ('group', 0), ('group', TOP), ('group', TOP, 0),
    ('group', 0, TOP, TOP), ('skyline',), ('skyline', ()), ('skyline', ((0, 'asc', 0),), 1), ('skyline', (0, 'asc', 0)),
    ('hull', 0), ('hull', 0, 1, 1), ('hull', 0, 0), ('hull', 1, 1), ('forest', 0, 1), ('forest', 0, 0, ()),
    ('forest', 1, 1, ()), ('forest', 0, 1, (), 1), ('union',), ('union', TOP, TOP), ('union', ()), ('union', (TOP,)),
    ('union', (TOP,) * 5), ('union', [TOP, TOP]), ('union', TOP), ('table',), ('table', T, T), ('table', *T),
    ('table', SECOND), ('table', SECOND_ALONE), ('table', FIRST_ALONE), T, ((0, 'asc'),),
)


class IsQueryTest(unittest.TestCase):
    def check_part(self, query, place, good, bad):
        """Check the query with other values at one place, for a width of 2."""
        self.assertIs(is_query(2, query), True, query)
        for value in good:
            self.assertIs(is_query(2, query[:place] + (value,) + query[place + 1:]), True, (query, place, value))
        for value in bad:
            self.assertIs(is_query(2, query[:place] + (value,) + query[place + 1:]), False, (query, place, value))

    def test_top(self):
        query = ('top', ((1, 'asc'),), 3)
        self.check_part(query, 1, ((), ((0, 'desc'), (1, 'asc'))), NOT_ORDERS + (((2, 'asc'),),))
        self.check_part(query, 2, range(1, 10), NOT_COUNTS)

    def test_capped(self):
        query = ('capped', ((1, 'asc'),), 3, 1, 2)
        self.check_part(query, 1, ((), ((0, 'desc'), (1, 'asc'))), NOT_ORDERS + (((2, 'asc'),),))
        self.check_part(query, 2, range(1, 10), NOT_COUNTS)
        self.check_part(query, 3, (0, 1), NOT_COLUMNS)
        self.check_part(query, 4, range(1, 10), NOT_COUNTS)

    def test_where(self):
        query = ('where', ('ge', 1, 5), TOP)
        deep = ('not', ('and', (('eq', 0, 1), ('le', 1, 1))))
        self.check_part(query, 1, (('eq', 0, 1), deep), NOT_CONDITIONS + (('ge', 2, 5), ('not', deep)))
        self.check_part(query, 2, LEAVES, NOT_QUERIES)

    def test_group(self):
        query = ('group', 1, TOP)
        self.check_part(query, 1, (0, 1), NOT_COLUMNS)
        self.check_part(query, 2, LEAVES, NOT_QUERIES)

    def test_skyline(self):
        query = ('skyline', ((0, 'asc', 0), (1, 'desc', 10 ** 9)))
        self.check_part(query, 1, (((1, 'desc', 0),),), NOT_MARGINS + (((2, 'asc', 0),),))

    def test_hull(self):
        self.check_part(('hull', 0, 1), 1, (0,), NOT_COLUMNS + (1,))
        self.check_part(('hull', 0, 1), 2, (1,), NOT_COLUMNS + (0,))

    def test_forest(self):
        query = ('forest', 1, 0, ((0, 'asc'),))
        self.check_part(query, 1, (1,), NOT_COLUMNS + (0,))
        self.check_part(query, 2, (0,), NOT_COLUMNS + (1,))
        self.check_part(query, 3, ((), ((0, 'desc'), (1, 'asc'))), NOT_ORDERS + (((2, 'asc'),),))

    def test_union(self):
        for count in range(7):
            for parts in ((TOP,) * count, tuple(LEAVES[:count])):
                self.assertIs(is_query(2, ('union', parts)), 2 <= count <= 4, parts)
                for value in ODD_VALUES + NOT_QUERIES:
                    self.assertIs(is_query(2, ('union', parts[:-1] + (value,))), False, value)
                    self.assertIs(is_query(2, ('union', (value,) + parts[1:])), False, value)

    def test_table(self):
        query = ('table', T)
        self.check_part(query, 1, (BLOCK, everything(('x',)), (('x', 'y'), ((), (), ()))), NOT_TABLES)
        self.check_part(query, 1, (), (SECOND, SECOND_ALONE, FIRST_ALONE))
        for wrap in WRAPS:
            self.assertIs(is_query(1, wrap(query)), True)
            self.assertIs(is_query(1, wrap(('table', SECOND))), False)

    def test_kinds(self):
        for query in QUERIES:
            self.assertIs(is_query(2, query), True, query)
            for value in ODD_VALUES + ('TOP', 'tops', 'top ', b'top', ('top',), ['top']):
                self.assertIs(is_query(2, (value,) + query[1:]), False, (value, query))
            self.assertIs(is_query(2, list(query)), False)

    def test_not_queries(self):
        for value in NOT_QUERIES + ODD_VALUES:
            self.assertIs(is_query(4, value), False, value)
        for name in ('where', 'group', 'union', 'hull', 'table', 'top'):
            for value in ODD_VALUES:
                self.assertIs(is_query(4, (name, value)), False, value)
                self.assertIs(is_query(4, (name, value, value)), False, value)

    def test_any_value(self):
        for query in QUERIES[::4]:
            for value in replaced(query):
                check_bool(self, is_query(2, value))
        for wrap in WRAPS:
            self.assertIs(is_query(4, nested(wrap, 20)), False)

    def test_no_argument_is_changed(self):
        for query in QUERIES:
            check_steady(self, is_query, 3, query)
            check_steady(self, is_query, 1, list(query))


class NestingTest(unittest.TestCase):
    def test_every_way_to_nest(self):
        self.assertEqual(MAX_NESTING, 4)
        for one in WRAPS:
            self.assertIs(is_query(1, one(TOP)), True)
            for two in WRAPS:
                self.assertIs(is_query(1, one(two(TOP))), True)
                for three in WRAPS:
                    self.assertIs(is_query(1, one(two(three(TOP)))), True)
                    for four in WRAPS:
                        self.assertIs(is_query(1, one(two(three(four(TOP))))), False)

    def test_every_kind_inside(self):
        for query in LEAVES:
            for one in WRAPS:
                for two in WRAPS:
                    self.assertIs(is_query(2, one(two(one(query)))), True)
                    self.assertIs(is_query(2, one(two(one(two(query))))), False)

    def test_conditions_and_tables_do_not_count(self):
        condition = ('not', ('or', (('eq', 0, 1), ('eq', 0, 2))))
        query = ('where', condition, ('where', condition, ('where', condition, ('table', BLOCK))))
        self.assertIs(is_query(1, query), True)
        self.assertIs(is_query(1, ('where', condition, query)), False)

    def test_wide_unions(self):
        query = TOP
        for count in range(2, 7):
            query = ('union', (query,) * 4)
            self.assertIs(is_query(1, query), count <= 4)

    def test_the_deepest_part_counts(self):
        deep = ('group', 0, ('group', 0, TOP))
        for place in range(4):
            parts = [TOP] * 4
            parts[place] = deep
            self.assertIs(is_query(1, ('union', tuple(parts))), True)
            parts[place] = ('group', 0, deep)
            self.assertIs(is_query(1, ('union', tuple(parts))), False)


class WidthTest(unittest.TestCase):
    def test_least_widths(self):
        for least, query in (
                (1, TOP), (1, Q), (2, ('top', ((1, 'asc'),), 1)), (4, ('top', ((0, 'asc'), (3, 'desc')), 1)),
                (3, ('capped', (), 1, 2, 1)), (4, ('capped', ((3, 'asc'),), 1, 0, 1)), (1, ('capped', (), 1, 0, 1)),
                (1, ('where', ('eq', 0, 5), TOP)), (3, ('where', ('not', ('eq', 2, 5)), TOP)),
                (2, ('where', ('eq', 0, 5), ('group', 1, TOP))), (4, ('group', 3, TOP)), (1, ('group', 0, TOP)),
                (2, ('skyline', ((1, 'asc', 0),))), (4, ('skyline', ((1, 'asc', 0), (3, 'asc', 0)))),
                (2, ('hull', 1, 0)), (4, ('hull', 0, 3)), (3, ('hull', 2, 1)), (2, ('forest', 0, 1, ())),
                (3, ('forest', 0, 1, ((2, 'asc'),))), (4, ('forest', 3, 1, ())), (1, ('table', T)),
                (3, ('union', (TOP, ('hull', 2, 0)))), (4, ('union', (('group', 3, TOP), TOP, TOP)))):
            for width in (1, 2, 3, 4):
                self.assertIs(is_query(width, query), width >= least, (width, query))

    def test_a_query_for_a_width_is_one_for_each_larger_width(self):
        for query in QUERIES:
            found = [is_query(width, query) for width in (1, 2, 3, 4)]
            self.assertEqual(found, sorted(found))
            self.assertEqual(found[1:], [True] * 3)

    def test_errors(self):
        wrong = holding(numbers_outside(1, 4), InvalidNumber, 'value')
        for value in (TOP, None, [], ('table', SECOND)):
            check_errors(self, is_query, {0: 1, 1: value}, [(0, wrong)])
        for width in (0, 5, True) + NOT_INTEGERS:
            check_raises(self, (InvalidNumber, 'value', width), is_query, width, TOP)


if __name__ == '__main__':
    unittest.main()
