"""Tests of spareskept.rows.rowsets: 0.1 to 0.6, 0.11, 1.1 and 1.2."""

import unittest

from spareskept.errors import InvalidRowset, NameConflict, TooMany, UnknownName
from spareskept.rows import rowsets
from spareskept.rows.rowsets import find_row, is_name, is_row, is_rowset, keep_rows, make_rowset, remove_rows
from spareskept.rows.rowsets import row_names, rowset_width, total_cost, union_rowsets
from tests.values import NOT_INTEGERS, NOT_NAMES_OF_ROWS, NOT_ROWSETS, ODD_VALUES, R, SIXTY, SIXTY_ONE
from tests.values import cases, check_bool, check_errors, check_raises, check_steady, holding
from tests.values import replaced, rows_of_width

NOT_NAMES_TUPLES = (None, 1, True, 'ann', ['ann'], {}, {'ann': 1})


def names_cases():
    """Return the cases of a parameter names for the rowset R."""
    found = holding(NOT_NAMES_TUPLES, UnknownName, 'name')
    for name in NOT_NAMES_OF_ROWS:
        found.append((('cat', name, 'zoe', 'ann'), (UnknownName, 'name', name)))
    return found


class NamesTest(unittest.TestCase):
    def test_constants(self):
        self.assertEqual(
            [rowsets.MAX_ROWS, rowsets.MAX_WIDTH, rowsets.MAX_COST, rowsets.MAX_VALUE, rowsets.MAX_EXPIRY],
            [60, 4, 10 ** 6, 10 ** 9, 10 ** 9])

    def test_names(self):
        for value in ('a', 'z', 'ann', 'abcdefgh', 'az', 'zzzzzzzz'):
            self.assertIs(is_name(value), True, value)

    def test_not_names(self):
        for value in ('', 'abcdefghi', 'A', 'aB', 'a b', ' a', 'a\n', 'a1', '\u00e4', '\u0430', '`', '{', 'a-b', b'a',
                      ('a',), ['a'], 'a' * 1000):
            self.assertIs(is_name(value), False, value)

    def test_any_value(self):
        for value in ODD_VALUES:
            self.assertIs(is_name(value), value == 'asc', value)


class RowTest(unittest.TestCase):
    def test_bounds(self):
        for row in (('a', 1, (0,), 1), ('a', 10 ** 6, (0,), 10 ** 9), ('abcdefgh', 1, (1, 2, 3, 4), 1),
                    ('a', 1, (10 ** 9, -10 ** 9), 1)):
            self.assertIs(is_row(row), True, row)

    def test_beyond_the_bounds(self):
        for row in (('a', 0, (0,), 1), ('a', 10 ** 6 + 1, (0,), 1), ('a', -1, (0,), 1), ('a', 1, (0,), 0),
                    ('a', 1, (0,), 10 ** 9 + 1), ('a', 1, (), 1), ('a', 1, (1, 2, 3, 4, 5), 1),
                    ('a', 1, (10 ** 9 + 1,), 1), ('a', 1, (0, -10 ** 9 - 1), 1), ('', 1, (0,), 1),
                    ('abcdefghi', 1, (0,), 1), ('a', 1, (0,)), ('a', 1, (0,), 1, 1), ()):
            self.assertIs(is_row(row), False, row)

    def test_a_list_is_not_a_tuple(self):
        self.assertIs(is_row(['a', 1, (0,), 1]), False)
        self.assertIs(is_row(('a', 1, [0], 1)), False)

    def test_integers(self):
        for value in NOT_INTEGERS:
            self.assertIs(is_row(('a', value, (0,), 1)), False, value)
            self.assertIs(is_row(('a', 1, (0, value), 1)), False, value)
            self.assertIs(is_row(('a', 1, (0,), value)), False, value)

    def test_any_value(self):
        for value in ODD_VALUES:
            self.assertIs(is_row(value), False, value)
        for value in replaced(R[0]):
            check_bool(self, is_row(value))


class RowsetTest(unittest.TestCase):
    def test_rowsets(self):
        for value in ((), R, R[:1], SIXTY, rows_of_width(3, 1), rows_of_width(3, 4)):
            self.assertIs(is_rowset(value), True, value)

    def test_not_rowsets(self):
        for value in NOT_ROWSETS:
            self.assertIs(is_rowset(value), False, value)

    def test_names_must_ascend(self):
        a, b, c = rows_of_width(3, 1)
        for value in ((b, a), (a, c, b), (c, b, a), (a, a), (a, b, b), (a, ('aa', 9, (9,), 9))):
            self.assertIs(is_rowset(value), False, value)

    def test_one_width(self):
        a, b, c = rows_of_width(3, 2)
        for row in (('ab', 1, (1,), 1), ('ab', 1, (1, 2, 3), 1)):
            self.assertIs(is_rowset((a, row)), False)
            self.assertIs(is_rowset((a, row, c)), False)
        self.assertIs(is_rowset((('aa', 1, (1,), 1), b)), False)

    def test_any_value(self):
        for value in ODD_VALUES:
            self.assertIs(is_rowset(value), value == (), value)
        for value in replaced(R):
            check_bool(self, is_rowset(value))


class MakeRowsetTest(unittest.TestCase):
    def test_any_order(self):
        a, b, c = R
        for rows in ((a, b, c), (b, a, c), (c, b, a), (c, a, b)):
            self.assertEqual(check_steady(self, make_rowset, rows), R)
        self.assertEqual(make_rowset(()), ())
        self.assertEqual(make_rowset(SIXTY[::-1]), SIXTY)

    def test_not_rows(self):
        wider = ('dan', 1, (1, 2, 3), 1)
        for value in (None, 1, 'a', [], list(R), {}, R[0], (R[0], R[0]), R + (R[0],), R + (('ann', 1, (1, 2), 1),),
                      R + (wider,), (wider,) + R, R + (list(R[0]),), (('a', True, (1,), 1),), (('a', 1, (True,), 1),),
                      (('a', 1, (1,), True),), (('a', 0, (1,), 1),)):
            check_raises(self, InvalidRowset, make_rowset, value)

    def test_too_many(self):
        check_raises(self, (TooMany, 'limit', 60), make_rowset, SIXTY_ONE)
        check_raises(self, (TooMany, 'limit', 60), make_rowset, SIXTY_ONE[::-1])

    def test_invalid_before_too_many(self):
        for last in (SIXTY[0], ('zz', 1, (1,), 1), ('zz', 0, (1, 2), 1), None, ['zz', 1, (1, 2), 1]):
            check_raises(self, InvalidRowset, make_rowset, SIXTY_ONE + (last,))
            check_raises(self, InvalidRowset, make_rowset, (last,) + SIXTY_ONE)
        check_raises(self, InvalidRowset, make_rowset, list(SIXTY_ONE))


class WidthAndNamesTest(unittest.TestCase):
    def test_width(self):
        for width in (1, 2, 3, 4):
            self.assertEqual(rowset_width(rows_of_width(1, width)), width)
            self.assertEqual(rowset_width(rows_of_width(60, width)), width)
        self.assertEqual(check_steady(self, rowset_width, ()), 4)

    def test_names(self):
        self.assertEqual(check_steady(self, row_names, R), ('ann', 'bob', 'cat'))
        self.assertEqual(row_names(()), ())
        self.assertEqual(row_names(SIXTY), tuple(row[0] for row in SIXTY))

    def test_invalid_rowset(self):
        for function in (rowset_width, row_names):
            for value in NOT_ROWSETS:
                check_raises(self, InvalidRowset, function, value)


class NamedRowsTest(unittest.TestCase):
    def test_find_row(self):
        for row in R:
            self.assertEqual(check_steady(self, find_row, R, row[0]), row)

    def test_find_row_errors(self):
        check_errors(self, find_row, {0: R, 1: 'ann'}, [
            (0, cases(NOT_ROWSETS, InvalidRowset)), (1, holding(NOT_NAMES_OF_ROWS, UnknownName, 'name'))])
        check_raises(self, (UnknownName, 'name', 'ann'), find_row, (), 'ann')

    def test_remove_and_keep(self):
        ann, bob, cat = R
        for names, removed, kept in (
                ((), R, ()), (('ann',), (bob, cat), (ann,)), (('cat', 'ann'), (bob,), (ann, cat)),
                (('bob', 'bob'), (ann, cat), (bob,)), (('cat', 'bob', 'ann', 'cat'), (), R)):
            self.assertEqual(check_steady(self, remove_rows, R, names), removed)
            self.assertEqual(check_steady(self, keep_rows, R, names), kept)
        self.assertEqual([remove_rows((), ()), keep_rows((), ())], [(), ()])

    def test_total_cost(self):
        for names, cost in (((), 0), (('ann',), 5), (('cat', 'bob'), 3), (('cat', 'cat', 'cat'), 2),
                            (('cat', 'ann', 'bob', 'ann'), 8)):
            self.assertEqual(check_steady(self, total_cost, R, names), cost)
        most = tuple((row[0], 10 ** 6) + row[2:] for row in SIXTY)
        self.assertEqual(total_cost(most, row_names(most)), 60 * 10 ** 6)

    def test_errors(self):
        for function in (remove_rows, keep_rows, total_cost):
            check_errors(self, function, {0: R, 1: ('ann',)}, [
                (0, cases(NOT_ROWSETS, InvalidRowset)), (1, names_cases())])
            check_raises(self, (UnknownName, 'name', 'ann'), function, (), ('ann',))


class UnionTest(unittest.TestCase):
    def test_union(self):
        ann, bob, cat = R
        for parts in ((R,), (R, R), ((ann,), (bob, cat)), ((cat,), (bob,), (ann,)), ((bob, cat), (ann, bob)),
                      ((), R), (R, ()), ((), (cat,), (), (ann, bob))):
            self.assertEqual(check_steady(self, union_rowsets, parts), R)
        for parts in ((), ((),), ((), ())):
            self.assertEqual(union_rowsets(parts), ())

    def test_an_empty_rowset_does_not_affect_the_width(self):
        for width in (1, 2, 3, 4):
            rows = rows_of_width(2, width)
            self.assertEqual(union_rowsets(((), rows, ())), rows)

    def test_not_rowsets(self):
        for value in (None, 1, 'a', [], [R], {}, R, (R, None), (R, list(R)), (R[::-1],), (R, (R[0], R[0])),
                      (SIXTY_ONE,), (R, rows_of_width(1, 1)), (rows_of_width(1, 3), R),
                      ((), R, (), rows_of_width(1, 4))):
            check_raises(self, InvalidRowset, union_rowsets, value)

    def test_conflicts(self):
        one = (('a', 1, (0,), 1), ('b', 1, (0,), 1), ('c', 1, (0,), 1))
        for index, other in ((0, ('a', 2, (0,), 1)), (1, ('b', 1, (1,), 1)), (2, ('c', 1, (0,), 2))):
            check_raises(self, (NameConflict, 'name', 'abc'[index]), union_rowsets, (one, (other,)))
            check_raises(self, (NameConflict, 'name', 'abc'[index]), union_rowsets, ((other,), (), one))
        check_raises(self, (NameConflict, 'name', 'b'), union_rowsets,
                     (one, (('c', 2, (0,), 1),), (('b', 2, (0,), 1),)))
        check_raises(self, (NameConflict, 'name', 'a'), union_rowsets,
                     ((('c', 2, (0,), 1),), one, (('a', 2, (0,), 1), ('b', 2, (0,), 1))))

    def test_too_many(self):
        last = SIXTY_ONE[60:]
        self.assertEqual(union_rowsets((SIXTY[:30], SIXTY[30:], SIXTY)), SIXTY)
        check_raises(self, (TooMany, 'limit', 60), union_rowsets, (SIXTY, last))
        check_raises(self, (TooMany, 'limit', 60), union_rowsets, (last, (), SIXTY[:30], SIXTY[30:]))

    def test_order_of_the_errors(self):
        last = SIXTY_ONE[60:]
        changed = (('ab', 1, (7, 7), 1),)
        narrow = (('ac', 1, (7,), 1),)
        check_raises(self, (NameConflict, 'name', 'ab'), union_rowsets, (SIXTY, last, changed))
        check_raises(self, InvalidRowset, union_rowsets, (SIXTY, last, narrow))
        check_raises(self, InvalidRowset, union_rowsets, (SIXTY, changed, narrow))
        check_raises(self, InvalidRowset, union_rowsets, (SIXTY, last, changed, None))
        check_raises(self, InvalidRowset, union_rowsets, [SIXTY, last, changed])


if __name__ == '__main__':
    unittest.main()
