"""Tests of spareskept.stores.store: 13.1 and 13.2."""

import unittest

from spareskept.errors import BudgetExceeded, InvalidNumber, InvalidQuery, InvalidRow, InvalidRowset, InvalidStore
from spareskept.errors import NameConflict, TooMany, UnknownName
from spareskept.expiry.durable import durable_kernel, live_rows
from spareskept.queries.select import selected_names
from spareskept.rows.rowsets import is_row, is_rowset, union_rowsets
from spareskept.stores.store import KernelStore
from tests.queries import LARGE, QUERIES, expiring_rowsets, live_at, plain_durable, plain_names
from tests.test_depths import rows_of, without
from tests.test_kernels import affordable
from tests.test_outcomes import BUDGET_CASES, EACH
from tests.test_select import DELETED_CASES, NOT_DELETED, QUERY_CASES
from tests.values import FIFTY_DIGITS, NOT_ROWSETS, ODD_VALUES, Q, R, S, SIXTY
from tests.values import cases, check_errors, check_raises, cost_of, holding, name_of, nested, numbers_outside
from tests.values import random_rowset, random_source, subsets

WIDTH_CASES = holding(numbers_outside(1, 4), InvalidNumber, 'value')
TIME_CASES = holding(numbers_outside(0, 10 ** 9), InvalidNumber, 'value')
A, B, C = S
NOT_ROWS = (
    None, 1, True, 'a', (), [], list(A), {}, A[:3], A + (1,), ('A', 2, (1,), 9), ('a', 0, (1,), 9), ('a', 2, (), 9),
    ('a', 2, [1], 9), ('a', 2, (1,), 0), ('a', 2, (1,), 10 ** 9 + 1), ('a', True, (1,), 9), ('a', 2, (1, 1), 9),
    ('a', 2, (10 ** 9 + 1,), 9), ('a', 2, (1,), None), (A,), S, 'abcd', nested(lambda part: (part,), 20),
)
NOT_NAMES = (None, 1, True, '', 'A', 'abcdefghi', 'a ', 'a1', (), ('a',), ['a'], {'a': 1}, {}, FIFTY_DIGITS)


def state_of(store):
    return (store.query(), store.budget(), store.now(), store.rows(), store.select(), len(store), str(store))


def made(rowset=S, budget=2, *, query=Q, width=1, now=0):
    return KernelStore(query, budget, width=width, rowset=rowset, now=now)


def different_rows(count, *, width=1, expiry=9):
    return tuple((name_of(number), 1, (number,) * width, expiry) for number in range(count))


class CheckedTest(unittest.TestCase):
    def check_state(self, store, query, budget, now, rows):
        self.assertEqual((store.query(), store.budget(), store.now(), store.rows()), (query, budget, now, rows))
        self.assertEqual(len(store), len(rows))
        self.assertEqual(store.select(), plain_names(rows, query))
        self.assertEqual(str(store), f'store with {len(rows)} rows, budget {budget}')

    def check_refused(self, error, store, method, *arguments):
        """Check that the call raises this error and leaves the store as it was."""
        before = state_of(store)
        check_raises(self, error, getattr(store, method), *arguments)
        self.assertEqual(state_of(store), before)


class MakingTest(CheckedTest):
    def test_every_query(self):
        for query in QUERIES:
            for rowset in expiring_rowsets(query, 6)[:2]:
                for budget in (0, 2, 10 ** 9):
                    for now in (0, 1, 3, 10 ** 9):
                        store = made(rowset, budget, query=query, width=2, now=now)
                        kernel = plain_durable(live_at(rowset, now), query, budget)
                        self.check_state(store, query, budget, now, kernel)

    def test_ways_to_make_a_store(self):
        self.check_state(KernelStore(Q, 2, width=1, rowset=S), Q, 2, 0, (A, B, C))
        self.check_state(KernelStore(Q, 1, width=1, rowset=S, now=0), Q, 1, 0, (A,))
        self.check_state(KernelStore(Q, 1, now=4, rowset=S, width=1), Q, 1, 4, (A,))
        self.check_state(KernelStore(Q, 10 ** 9, rowset=S, now=5, width=1), Q, 10 ** 9, 5, (A, C))
        self.check_state(KernelStore(Q, 2, now=9, width=1, rowset=S), Q, 2, 9, ())
        for arguments in ({}, {'width': 4}, {'rowset': ()}, {'now': 0}, {'now': 0, 'width': 4, 'rowset': ()}):
            store = KernelStore(Q, 3, **arguments)
            self.check_state(store, Q, 3, 0, ())
            self.assertEqual(store, KernelStore(Q, 3))
        four = (('a', 1, (1, 2, 3, 4), 5),)
        self.check_state(KernelStore(('hull', 2, 3), 0, rowset=four), ('hull', 2, 3), 0, 0, four)
        self.assertRaises(TypeError, KernelStore, Q, 2, 1)

    def test_the_empty_rowset_has_every_width(self):
        for width in (1, 2, 3, 4):
            store = KernelStore(Q, 3, width=width, rowset=(), now=7)
            self.check_state(store, Q, 3, 7, ())
            store.insert(('a', 1, (5,) * width, 8))
            self.assertEqual(len(store), 1)
            self.check_refused(InvalidRow, store, 'insert', ('b', 1, (5,) * (width % 4 + 1), 8))

    def test_sixty_rows(self):
        self.check_state(made(SIXTY, 0, query=EACH, width=2), EACH, 0, 0, SIXTY)
        for query in LARGE:
            rowset = random_rowset(2, 60, 2, high=9, expiry=9)
            store = made(rowset, 7, query=query, width=2, now=3)
            self.assertEqual(store.rows(), durable_kernel(live_rows(rowset, 3), query, budget=7))
            self.assertEqual(store.select(), selected_names(live_rows(rowset, 3), query))

    def test_errors(self):
        wide = ('hull', 0, 3)
        rowset_cases = cases(NOT_ROWSETS + (R, SIXTY, (A, ('b', 1, (1, 2), 9))), InvalidRowset)
        check_errors(self, KernelStore, {0: Q, 1: 2, 'width': 1, 'rowset': S, 'now': 0}, [
            ('width', WIDTH_CASES), (0, QUERY_CASES + cases((wide, ('top', ((1, 'asc'),), 1)), InvalidQuery)),
            (1, BUDGET_CASES), ('rowset', rowset_cases), ('now', TIME_CASES)])
        check_raises(self, InvalidQuery, KernelStore, wide, -1, width=3, rowset=None, now=-1)
        check_raises(self, InvalidRowset, KernelStore, wide, 0, rowset=S, now=-1)
        check_raises(self, InvalidRowset, KernelStore, Q, 0, rowset=R)
        check_raises(self, InvalidRowset, KernelStore, Q, 0, rowset=SIXTY + (('zz', 1, (1, 1), 1),), width=2)
        for arguments in ((Q,), (), (Q, 1, 1)):
            self.assertRaises(TypeError, KernelStore, *arguments)


class InsertTest(CheckedTest):
    def test_new_rows(self):
        store = made((), 0)
        for row, rows in ((B, (B,)), (A, (A,)), (C, (A,)), (('d', 1, (0,), 4), (A, ('d', 1, (0,), 4))),
                          (('e', 1, (0,), 4), (A, ('d', 1, (0,), 4))), (('f', 1, (0,), 3), (A, ('d', 1, (0,), 4))),
                          (('b', 1, (0,), 3), (A, ('b', 1, (0,), 3), ('d', 1, (0,), 4)))):
            self.assertIsNone(store.insert(row))
            self.check_state(store, Q, 0, 0, rows)

    def test_a_stored_row(self):
        store = made()
        for row in S + S:
            self.assertIsNone(store.insert(row))
            self.check_state(store, Q, 2, 0, S)

    def test_an_expired_row(self):
        store = made(now=5)
        for row in (('d', 1, (0,), 5), ('d', 1, (0,), 1), ('a', 2, (1,), 5), ('a', 9, (0,), 5), ('c', 1, (0,), 4), B):
            self.assertIsNone(store.insert(row))
            self.check_state(store, Q, 2, 5, (A, C))
        self.check_refused((NameConflict, 'name', 'a'), store, 'insert', ('a', 9, (0,), 6))
        self.assertIsNone(store.insert(('d', 1, (0,), 6)))
        self.check_state(store, Q, 2, 5, (A, C, ('d', 1, (0,), 6)))

    def test_a_stored_name(self):
        store = made()
        for row in (('a', 1, (1,), 9), ('a', 2, (0,), 9), ('a', 2, (1,), 8), ('b', 2, (2,), 5), ('c', 3, (3,), 1)):
            self.check_refused((NameConflict, 'name', row[0]), store, 'insert', row)
        # The name of a row that is not stored may come back with another row.
        store = made(budget=1)
        self.assertEqual(store.rows(), (A,))
        store.insert(('c', 1, (0,), 9))
        self.check_state(store, Q, 1, 0, (A, ('c', 1, (0,), 9)))

    def test_more_than_sixty_rows(self):
        rows = different_rows(61)
        store = made(rows[:59], 0, query=EACH)
        store.insert(rows[59])
        self.check_state(store, EACH, 0, 0, rows[:60])
        self.check_refused((TooMany, 'limit', 60), store, 'insert', rows[60])
        # The row is counted even where the kernel would not hold it.
        self.check_refused((TooMany, 'limit', 60), store, 'insert', ('zz', 1, (0,), 9))
        self.check_refused((NameConflict, 'name', 'aa'), store, 'insert', ('aa', 1, (0,), 8))
        self.check_refused(InvalidRow, store, 'insert', ('zz', 1, (0, 0), 9))
        self.assertIsNone(store.insert(rows[7]))
        store.advance(8)
        self.assertIsNone(store.insert(('zz', 1, (77,), 8)))
        self.check_refused((TooMany, 'limit', 60), store, 'insert', ('zz', 1, (77,), 10))
        store.advance(9)
        store.insert(('zz', 1, (77,), 10))
        self.check_state(store, EACH, 0, 9, (('zz', 1, (77,), 10),))

    def test_errors(self):
        store = made()
        for value in NOT_ROWS + ODD_VALUES + R:
            self.check_refused(InvalidRow, store, 'insert', value)
        self.check_refused(InvalidRow, store, 'insert', ('a', 1, (1, 1), 9))


class DeleteTest(CheckedTest):
    def test_stored_names(self):
        store = made(budget=6)
        self.assertIs(store.delete('b'), True)
        self.check_state(store, Q, 5, 0, (A, C))
        self.assertIs(store.delete('b'), False)
        self.assertIs(store.delete('c'), True)
        self.check_state(store, Q, 2, 0, (A,))
        self.assertIs(store.delete('a'), True)
        self.check_state(store, Q, 0, 0, ())

    def test_a_smaller_budget_needs_fewer_rows(self):
        store = made(budget=3)
        self.assertIs(store.delete('b'), True)
        self.check_state(store, Q, 2, 0, (A, C))
        store.insert(B)
        self.check_state(store, Q, 2, 0, S)
        self.assertIs(store.delete('a'), True)
        self.check_state(store, Q, 0, 0, (B, C))
        store = made(budget=2, now=0)
        store.delete('b')
        self.check_state(store, Q, 1, 0, (A,))

    def test_names_that_are_not_stored(self):
        store = made(budget=1)
        for name in ('b', 'c', 'd', 'abcdefgh', 'z'):
            self.assertIs(store.delete(name), False)
            self.check_state(store, Q, 1, 0, (A,))

    def test_budgets(self):
        for cost in (1, 5, 10 ** 6):
            rows = (('a', cost, (1,), 9),)
            for budget in (cost - 1, 0):
                store = made(rows, budget)
                self.check_refused((BudgetExceeded, 'cost', cost), store, 'delete', 'a')
            for budget in (cost, cost + 1, 10 ** 9):
                store = made(rows, budget)
                self.assertIs(store.delete('a'), True)
                self.check_state(store, Q, budget - cost, 0, ())

    def test_values_that_are_no_names(self):
        for store in (made(), made(())):
            for value in NOT_NAMES + tuple(value for value in ODD_VALUES if value != 'asc'):
                self.check_refused((UnknownName, 'name', value), store, 'delete', value)

    def test_every_row_of_every_query(self):
        for query in QUERIES:
            rowset = expiring_rowsets(query, 6)[1]
            for row in rowset:
                for budget in (row[1], 6):
                    store = made(rowset, budget, query=query, width=2)
                    stored = row in store.rows()
                    self.assertIs(store.delete(row[0]), stored)
                    left = budget - row[1] if stored else budget
                    self.check_state(store, query, left, 0, plain_durable(without(rowset, row[:1]), query, left))


class AdvanceTest(CheckedTest):
    def test_times(self):
        store = made(budget=9, now=2)
        for now, rows in ((2, S), (3, S), (3, S), (4, S), (5, (A, C)), (8, (A, C)), (9, ()), (10 ** 9, ()),
                          (10 ** 9, ())):
            self.assertIsNone(store.advance(now))
            self.check_state(store, Q, 9, now, rows)
            for earlier in {0, 1, now - 1}:
                self.check_refused((InvalidNumber, 'value', earlier), store, 'advance', earlier)

    def test_errors(self):
        for now in (0, 3):
            for value in numbers_outside(now, 10 ** 9):
                self.check_refused((InvalidNumber, 'value', value), made(now=now), 'advance', value)

    def test_every_query(self):
        for query in QUERIES:
            rowset = expiring_rowsets(query, 6)[1]
            for now in range(7):
                store = made(rowset, 3, query=query, width=2)
                store.advance(now)
                self.check_state(store, query, 3, now, plain_durable(live_at(rowset, now), query, 3))


class SelectWithoutTest(CheckedTest):
    def test_every_affordable_set(self):
        for query in QUERIES:
            rowset = expiring_rowsets(query, 5)[1]
            store = made(rowset, 4, query=query, width=2)
            before = state_of(store)
            for chosen in subsets(store.rows()):
                names = tuple(row[0] for row in chosen)
                if cost_of(chosen) > 4:
                    self.check_refused((BudgetExceeded, 'cost', cost_of(chosen)), store, 'select_without', names)
                else:
                    expected = plain_names(without(rowset, names), query)
                    for order in (names, names[::-1], names + names[::-1]):
                        self.assertEqual(store.select_without(order), expected)
                        self.assertEqual(store.select_without(order), expected)
            self.assertEqual(state_of(store), before)

    def test_budgets(self):
        for budget, names, expected in (
                (6, 'abc', ()), (3, 'ab', ('c',)), (3, 'ba', ('c',)), (3, 'abab', ('c',)), (2, 'a', ('b',)),
                (2, 'aaaa', ('b',)), (5, 'ca', ('b',)), (0, '', ('a',)), (9, '', ('a',))):
            self.assertEqual(made(budget=budget).select_without(tuple(names)), expected)
        for budget, names, cost in ((5, 'cba', 6), (2, 'ba', 3), (4, 'acca', 5), (2, 'abba', 3)):
            self.check_refused((BudgetExceeded, 'cost', cost), made(budget=budget), 'select_without', tuple(names))

    def test_errors(self):
        store = made(rowset=R, width=2, budget=9)
        self.assertEqual(len(store), 3)
        for names, error in DELETED_CASES:
            self.check_refused(error, store, 'select_without', names)
        # The name of a row that is not stored is not known, and that is found before the cost.
        store = made(budget=1)
        for names, name in ((('a', 'b'), 'b'), (('d', 'a'), 'd'), (('a', 'a', 'c', 'b'), 'c')):
            self.check_refused((UnknownName, 'name', name), store, 'select_without', names)
        for value in NOT_DELETED:
            self.check_refused((UnknownName, 'name', value), made(()), 'select_without', value)
        self.assertEqual(made(()).select_without(()), ())


class WithBudgetTest(CheckedTest):
    def test_budgets(self):
        store = made(budget=3, now=4)
        for budget, rows in ((3, S), (2, S), (1, (A,)), (0, (A,))):
            found = store.with_budget(budget)
            expected = durable_kernel(S, Q, budget=budget)
            self.assertEqual(expected, rows)
            self.check_state(found, Q, budget, 4, rows)
            self.assertEqual(found, made(rows, budget, now=4))
        for value in numbers_outside(0, 3):
            self.check_refused((InvalidNumber, 'value', value), store, 'with_budget', value)
        self.check_refused((InvalidNumber, 'value', 10 ** 9 + 1), made(budget=10 ** 9), 'with_budget', 10 ** 9 + 1)

    def test_the_stores_are_independent(self):
        store = made(budget=3)
        found = store.with_budget(3)
        self.assertEqual(found, store)
        found.delete('a')
        self.check_state(store, Q, 3, 0, S)
        store.advance(6)
        store.insert(('d', 1, (0,), 9))
        self.check_state(found, Q, 1, 0, durable_kernel((B, C), Q, budget=1))

    def test_width(self):
        store = made(R, 9, query=Q, width=2).with_budget(4)
        store.insert(('dan', 1, (0, 0), 9))
        self.check_refused(InvalidRow, store, 'insert', ('eve', 1, (0,), 9))

    def test_every_query(self):
        for query in QUERIES:
            rowset = expiring_rowsets(query, 6)[0]
            store = made(rowset, 6, query=query, width=2, now=1)
            for budget in range(7):
                found = store.with_budget(budget)
                self.check_state(found, query, budget, 1, plain_durable(live_at(rowset, 1), query, budget))


class MergedTest(CheckedTest):
    def check_merged(self, one, other, rows):
        before = state_of(one), state_of(other)
        budget, now = min(one.budget(), other.budget()), max(one.now(), other.now())
        for first, second in ((one, other), (other, one)):
            found = first.merged(second)
            self.check_state(found, one.query(), budget, now, rows)
            found.advance(10 ** 9)
        self.assertEqual((state_of(one), state_of(other)), before)

    def test_by_hand(self):
        self.check_merged(made((A,), 2), made((B,), 1), (A,))
        self.check_merged(made((A,), 2), made((B,), 2), (A, B))
        self.check_merged(made((A,), 2), made((B,), 2, now=5), (A,))
        self.check_merged(made((A, B), 3), made((B, C), 9, now=4), S)
        self.check_merged(made(S, 3), made(S, 3), S)
        self.check_merged(made(S, 3), made((), 9), S)
        self.check_merged(made((), 3), made((), 0, now=9), ())
        store = made(S, 3)
        self.assertEqual(store.merged(store), store)
        self.assertIsNot(store.merged(store), store)

    def test_rows_in_conflict(self):
        one = made((A, B, ('d', 1, (2,), 9)), 9)
        for row in (('b', 2, (2,), 9), ('b', 1, (1,), 9), ('b', 1, (2,), 6)):
            for more in ((), (('d', 2, (2,), 9),)):
                other = made((row,) + more, 9)
                self.check_refused((NameConflict, 'name', 'b'), one, 'merged', other)
                self.check_refused((NameConflict, 'name', 'b'), other, 'merged', one)
        self.check_refused((NameConflict, 'name', 'd'), one, 'merged', made((('d', 2, (2,), 9),), 9))
        # A row that has expired at the later time is in conflict with none.
        self.check_merged(one, made((('b', 2, (2,), 9),), 9, now=5), (A, ('b', 2, (2,), 9), ('d', 1, (2,), 9)))
        self.check_merged(made((A,), 9, now=4), made((('a', 1, (0,), 4),), 9), (A,))
        self.check_refused((NameConflict, 'name', 'b'), one, 'merged', made((('b', 2, (2,), 9),), 9, now=4))

    def test_other_queries_and_widths(self):
        store = made()
        for other in (made(query=('top', ((0, 'asc'),), 2)), made(query=('top', (), 1)), made(R, query=Q, width=2),
                      KernelStore(Q, 2), made((), width=3)):
            self.check_refused(InvalidStore, store, 'merged', other)
            self.check_refused(InvalidStore, other, 'merged', store)
        # What the query is comes before what the rows are.
        self.check_refused(InvalidStore, store, 'merged', made((('a', 1, (0,), 9),), query=EACH))

    def test_values_that_are_no_stores(self):
        for value in ODD_VALUES + NOT_ROWSETS + (S, Q, (Q, 2), [made()], (made(),), {'a': made()}, str(made())):
            self.check_refused(InvalidStore, made(), 'merged', value)

    def test_more_than_sixty_rows(self):
        rows = different_rows(61)
        self.check_merged(made(rows[:31], 0, query=EACH), made(rows[29:60], 0, query=EACH), rows[:60])
        one, other = made(rows[:30], 0, query=EACH), made(rows[30:], 0, query=EACH)
        self.check_refused((TooMany, 'limit', 60), one, 'merged', other)
        # Rows that the kernel would not hold count, rows that have expired do not.
        equal = tuple((row[0], 1, (0,), 9) for row in rows)
        one, other = made(equal[:30], 99), made(equal[30:], 99)
        self.assertEqual(len(one) + len(other), 61)
        self.check_refused((TooMany, 'limit', 60), one, 'merged', other)
        short = rows[:5] + (('af', 1, (5,), 3),) + rows[6:30]
        later = made(rows[30:], 0, query=EACH, now=3)
        self.check_merged(made(short, 0, query=EACH), later, rows[:5] + rows[6:])
        conflict = made(rows[:31], 0, query=EACH).merged(made((), 0, query=EACH))
        self.check_refused((NameConflict, 'name', 'bd'), conflict, 'merged', made(
            (('bd', 2, (1,), 9),) + rows[31:], 0, query=EACH))

    def test_every_query(self):
        for query in QUERIES:
            rowset = expiring_rowsets(query, 7)[1]
            for first, second in ((rowset[:3], rowset[3:]), (rowset[:5], rowset[2:]), (rowset, rowset[1::2])):
                for budgets in ((3, 3), (5, 2)):
                    for now in (0, 2):
                        one = made(first, budgets[0], query=query, width=2)
                        other = made(second, budgets[1], query=query, width=2, now=now)
                        self.check_merged(one, other, plain_durable(live_at(rowset, now), query, budgets[1]))


class EqualityTest(CheckedTest):
    def test_equal_stores(self):
        one = made((A, B), 2)
        other = made((B,), 2)
        other.insert(A)
        self.assertTrue(one == other and not one != other)
        self.assertTrue(made((A,), 1) == made(S, 1))
        self.assertTrue(KernelStore(Q, 2) == KernelStore(Q, 2, width=4))

    def test_different_stores(self):
        store = made()
        for other in (made(budget=3), made(now=1), made((A, B)), made(()), made(query=('top', ((0, 'asc'),), 2)),
                      made((), width=2), KernelStore(Q, 2)):
            self.assertIs(store == other, False)
            self.assertIs(other == store, False)
            self.assertIs(store != other, True)
        self.assertIs(made((), width=1) == made((), width=2), False)
        self.assertIs(made(()) == made((), query=EACH), False)

    def test_any_value(self):
        for store in (made(), made(())):
            for value in ODD_VALUES + (S, Q, store.rows(), str(store), [store], (Q, 2, 1, S, 0)):
                self.assertIs(store == value, False)
                self.assertIs(store != value, True)

    def test_text(self):
        for store, text in ((made(), 'store with 3 rows, budget 2'), (made((A,), 0), 'store with 1 rows, budget 0'),
                            (made((), 10 ** 9), 'store with 0 rows, budget 1000000000')):
            self.assertEqual(str(store), text)

    def test_a_store_is_no_other_value(self):
        store = made()
        self.assertIs(is_row(store), False)
        self.assertIs(is_rowset((store,)), False)
        check_raises(self, InvalidRowset, union_rowsets, (S, store))


class SequencesTest(CheckedTest):
    """13.2: the stored rows are the durable kernel of all rows inserted, not deleted afterwards, and live."""

    def run_steps(self, source, store, rowset, count):
        """Yield the rows that would be stored without a budget, after each of so many steps."""
        inserted = {}
        for _ in range(count):
            step = source.randrange(10)
            row = source.choice(rowset)
            if step < 6:
                store.insert(row)
                if row[3] > store.now():
                    inserted[row[0]] = row
            elif step < 9:
                self.delete(store, inserted, row[0])
            else:
                store.advance(store.now() + source.randrange(3))
            yield tuple(inserted[name] for name in sorted(inserted) if inserted[name][3] > store.now())

    def delete(self, store, inserted, name):
        stored = rows_of(store.rows(), (name,))
        if stored and stored[0][1] > store.budget():
            self.check_refused((BudgetExceeded, 'cost', stored[0][1]), store, 'delete', name)
        else:
            budget = store.budget() - cost_of(stored)
            self.assertIs(store.delete(name), bool(stored))
            self.assertEqual(store.budget(), budget)
            inserted.pop(name, None)

    def test_small_rowsets(self):
        for query in QUERIES:
            for seed in range(3):
                rowset = random_rowset(seed, 7, 2, high=2, cost=3, expiry=12)
                store = made((), 4 + 4 * seed, query=query, width=2)
                for rows in self.run_steps(random_source(seed, query), store, rowset, 14):
                    self.check_state(
                        store, query, store.budget(), store.now(), plain_durable(rows, query, store.budget()))

    def test_another_row_after_a_deletion(self):
        for query in QUERIES[::2]:
            first, second = (random_rowset(seed, 6, 2, high=2, cost=2, expiry=9) for seed in (1, 2))
            store = made(first, 40, query=query, width=2)
            for row in second:
                store.delete(row[0])
                store.insert(row)
            left = store.budget()
            self.assertEqual(store.rows(), plain_durable(second, query, left))

    def test_large_rowsets(self):
        for query in LARGE:
            source = random_source('large', query)
            rowset = random_rowset(3, 60, 2, high=9, cost=6, expiry=60)
            store = made((), 40, query=query, width=2)
            for rows in self.run_steps(source, store, rowset, 120):
                if source.randrange(10) == 0:
                    kernel = durable_kernel(rows, query, budget=store.budget())
                    self.check_state(store, query, store.budget(), store.now(), kernel)
                    self.assertEqual(store.select(), selected_names(rows, query))

    def test_selections_without_stored_rows(self):
        for query in LARGE:
            rowset = random_rowset(9, 60, 2, high=9, cost=6, expiry=20)
            store = made((), 15, query=query, width=2)
            for row in random_source('order', query).sample(rowset, 60):
                store.insert(row)
            self.assertEqual(store.rows(), durable_kernel(rowset, query, budget=15))
            for seed in range(5):
                names = affordable(store.rows(), 15, seed)
                self.assertEqual(store.select_without(names), selected_names(rowset, query, deleted=names))


if __name__ == '__main__':
    unittest.main()
