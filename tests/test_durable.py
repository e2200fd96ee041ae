"""Tests of spareskept.expiry.durable: 12.1, 12.2 and 12.3."""

import itertools
import unittest

from spareskept.depths.depths import row_depth
from spareskept.depths.kernels import kernel_rows
from spareskept.errors import InvalidNumber, InvalidQuery, InvalidRowset, UnknownName
from spareskept.expiry.durable import MAX_TIME, depth_profile, durable_kernel, entry_time, final_depth, live_rows
from spareskept.expiry.durable import selection_starts, surviving_rows
from spareskept.queries.select import selected_names
from tests.queries import LARGE, QUERIES, TOPS, expiring_rowsets, live_at, plain_depths, plain_durable, plain_names
from tests.queries import plain_selections, times_of
from tests.test_depths import TARGET_CASES, without
from tests.test_kernels import affordable
from tests.test_outcomes import BUDGET_CASES
from tests.test_select import DELETED_CASES, QUERY_CASES
from tests.values import NOT_NAMES_OF_ROWS, NOT_ROWSETS, Q, R, S
from tests.values import cases, check_errors, check_raises, check_steady, cost_of, holding, numbers_outside
from tests.values import random_rowset, subsets

ROWSET_CASES = cases(NOT_ROWSETS, InvalidRowset)
TIME_CASES = holding(numbers_outside(0, 10 ** 9), InvalidNumber, 'value')
# The rows a, b and d expire together; c expires first, e last.
FIVE = (('a', 2, (5,), 4), ('b', 1, (1,), 4), ('c', 3, (0,), 2), ('d', 7, (6,), 4), ('e', 1, (9,), 8))


def survivors(rowset, row):
    return tuple(other for other in rowset if other[3] >= row[3])


class RowsTest(unittest.TestCase):
    def test_live_rows(self):
        self.assertEqual(MAX_TIME, 10 ** 9)
        for now, names in ((0, 'abcde'), (1, 'abcde'), (2, 'abde'), (3, 'abde'), (4, 'e'), (7, 'e'), (8, ''),
                           (9, ''), (10 ** 9, '')):
            self.assertEqual(check_steady(self, live_rows, FIVE, now), tuple(row for row in FIVE if row[0] in names))
        longest = (('a', 1, (0,), 10 ** 9), ('b', 1, (0,), 10 ** 9 - 1), ('c', 1, (0,), 1))
        for now, names in ((0, 'abc'), (1, 'ab'), (10 ** 9 - 2, 'ab'), (10 ** 9 - 1, 'a'), (10 ** 9, '')):
            self.assertEqual(live_rows(longest, now), tuple(row for row in longest if row[0] in names))
        self.assertEqual(live_rows((), 5), ())

    def test_surviving_rows(self):
        for name, names in (('a', 'abde'), ('b', 'abde'), ('c', 'abcde'), ('d', 'abde'), ('e', 'e')):
            expected = tuple(row for row in FIVE if row[0] in names)
            self.assertEqual(check_steady(self, surviving_rows, FIVE, name), expected)

    def test_random_rowsets(self):
        for seed in range(20):
            rowset = random_rowset(seed, seed * 3, 2, expiry=1 + seed)
            for now in times_of(rowset):
                self.assertEqual(live_rows(rowset, now), live_at(rowset, now))
            for row in rowset:
                self.assertEqual(surviving_rows(rowset, row[0]), survivors(rowset, row))

    def test_errors(self):
        for rowset in (R, ()):
            check_errors(self, live_rows, {0: rowset, 1: 0}, [(0, ROWSET_CASES), (1, TIME_CASES)])
        check_errors(self, surviving_rows, {0: R, 1: 'ann'}, [
            (0, ROWSET_CASES), (1, holding(NOT_NAMES_OF_ROWS, UnknownName, 'name'))])
        check_raises(self, (UnknownName, 'name', 'ann'), surviving_rows, (), 'ann')


class DepthTest(unittest.TestCase):
    """Final depths, profiles and entry times."""

    def check_row(self, rowset, query, row, depths):
        """Check the row against its depths at every time, a dict."""
        profile = check_steady(self, depth_profile, rowset, query, row[0])
        expected = []
        for now, depth in depths.items():
            if depth is not None and (not expected or depth < expected[-1][1]):
                expected.append((now, depth))
        self.assertEqual(profile, tuple(expected), (rowset, query, row))
        final = check_steady(self, final_depth, rowset, query, row[0])
        self.assertEqual(final, row_depth(survivors(rowset, row), query, row[0]))
        self.assertEqual(final, profile[-1][1] if profile else None)
        self.assertIs(profile == (), not selected_names((row,), query))
        for budget in {0, 1, 10 ** 9} | {max(0, depth + step) for _, depth in profile for step in (-1, 0)}:
            times = [now for now, depth in depths.items() if depth is not None and depth <= budget]
            found = check_steady(self, entry_time, rowset, query, row[0], budget=budget)
            self.assertEqual(found, min(times, default=None))
            self.assertTrue(found is None or found < row[3])

    def test_every_query(self):
        for query in QUERIES:
            for rowset in expiring_rowsets(query, 6):
                depths = {now: plain_depths(live_at(rowset, now), query) for now in times_of(rowset)}
                for row in rowset:
                    self.check_row(rowset, query, row, {
                        now: known[row[0]] for now, known in depths.items() if now < row[3]})

    def test_every_time(self):
        for query in QUERIES[::3]:
            rowset = random_rowset(3, 12, 2, expiry=9)
            for row in rowset:
                self.check_row(rowset, query, row, {
                    now: row_depth(live_at(rowset, now), query, row[0]) for now in range(row[3])})

    def test_by_hand(self):
        for name, profile in (
                ('a', ((0, 4), (2, 1))), ('b', ((0, 3), (2, 0))), ('c', ((0, 0),)), ('d', ((0, 6), (2, 3))),
                ('e', ((0, 13), (2, 10), (4, 0)))):
            self.assertEqual(depth_profile(FIVE, Q, name), profile)
            self.assertEqual(final_depth(FIVE, Q, name), profile[-1][1])
        for budget, time in ((0, 4), (1, 4), (9, 4), (10, 2), (12, 2), (13, 0), (10 ** 9, 0)):
            self.assertEqual(entry_time(FIVE, Q, 'e', budget=budget), time)
        for budget, time in ((0, None), (1, 2), (3, 2), (4, 0)):
            self.assertEqual(entry_time(FIVE, Q, 'a', budget=budget), time)
        never = ('where', ('ge', 0, 7), Q)
        self.assertEqual(depth_profile(FIVE, never, 'a'), ())
        self.assertIsNone(final_depth(FIVE, never, 'a'))
        self.assertIsNone(entry_time(FIVE, never, 'a', budget=10 ** 9))
        self.assertEqual(depth_profile(FIVE, never, 'e'), ((0, 0),))

    def test_sixty_rows(self):
        for query in LARGE:
            rowset = random_rowset(4, 60, 2, high=9, cost=30, expiry=40)
            for row in rowset[::9]:
                self.check_row(rowset, query, row, {
                    now: row_depth(live_at(rowset, now), query, row[0]) for now in range(row[3])})

    def test_the_default(self):
        for query in QUERIES:
            rowset = expiring_rowsets(query, 5)[1]
            for row in rowset:
                self.assertEqual(entry_time(rowset, query, row[0]), entry_time(rowset, query, row[0], budget=0))
        self.assertRaises(TypeError, entry_time, S, Q, 'a', 1)

    def test_errors(self):
        for function in (final_depth, depth_profile, entry_time):
            check_errors(self, function, {0: R, 1: Q, 2: 'ann'}, TARGET_CASES)
            check_raises(self, (UnknownName, 'name', 'ann'), function, (), Q, 'ann')
            check_raises(self, InvalidQuery, function, (), ('group', 4, Q), 'ann')
        check_errors(
            self, entry_time, {0: R, 1: Q, 2: 'ann', 'budget': 0}, TARGET_CASES + [('budget', BUDGET_CASES)])


class DurableKernelTest(unittest.TestCase):
    def check_kernel(self, rowset, query, budget):
        """Check the kernel at every time after every deletion within the budget; return it."""
        kernel = check_steady(self, durable_kernel, rowset, query, budget=budget)
        self.assertEqual(kernel, plain_durable(rowset, query, budget), (rowset, query, budget))
        selections = plain_selections(rowset, query)
        for now in times_of(rowset):
            for rest in selections:
                if cost_of(rowset) - cost_of(rest) <= budget:
                    kept = tuple(row for row in rest if row in kernel)
                    self.assertEqual(selections[live_at(kept, now)], selections[live_at(rest, now)])
            live = live_at(rowset, now)
            self.assertEqual(durable_kernel(live, query, budget=budget), live_at(kernel, now))
            self.assertTrue(set(kernel_rows(live, query, budget=budget)) <= set(kernel))
        return kernel

    def check_every_row_is_needed(self, rowset, query, budget, kernel):
        """Check that without any row of the kernel a selection differs at some time after some deletion."""
        selections = plain_selections(rowset, query)
        times = times_of(rowset)
        affordable_sets = [rest for rest in selections if cost_of(rowset) - cost_of(rest) <= budget]
        for row in kernel:
            fewer = tuple(other for other in kernel if other != row)
            self.assertTrue(any(
                selections[live_at(tuple(other for other in rest if other in fewer), now)]
                != selections[live_at(rest, now)] for now in times for rest in affordable_sets))

    def test_every_deletion(self):
        for query in QUERIES:
            for rowset in expiring_rowsets(query, 5)[:2]:
                for budget in (0, 1, 3, 6):
                    kernel = self.check_kernel(rowset, query, budget)
                    self.check_every_row_is_needed(rowset, query, budget, kernel)

    def test_budgets_at_final_depths(self):
        for query in QUERIES:
            for rowset in expiring_rowsets(query, 6):
                depths = {row[0]: final_depth(rowset, query, row[0]) for row in rowset}
                known = {depth for depth in depths.values() if depth is not None}
                for budget in {0, 10 ** 9} | known | {max(0, depth - 1) for depth in known}:
                    kernel = durable_kernel(rowset, query, budget=budget)
                    self.assertEqual([row[0] for row in kernel], [
                        name for name, depth in depths.items() if depth is not None and depth <= budget])
                self.assertEqual(durable_kernel(rowset, query, budget=10 ** 9), tuple(
                    row for row in rowset if selected_names((row,), query)))

    def test_by_hand(self):
        for budget, names in ((0, 'bce'), (1, 'abce'), (2, 'abce'), (3, 'abcde'), (10 ** 9, 'abcde')):
            self.assertEqual(durable_kernel(FIVE, Q, budget=budget), tuple(row for row in FIVE if row[0] in names))
        self.assertEqual(durable_kernel((), Q, budget=3), ())

    def test_rows_that_expire_together(self):
        for query in QUERIES:
            rowset = random_rowset(6, 8, 2)
            for budget in (0, 2, 5):
                self.assertEqual(
                    durable_kernel(rowset, query, budget=budget), kernel_rows(rowset, query, budget=budget))

    def test_sixty_rows(self):
        for query in LARGE:
            rowset = random_rowset(8, 60, 2, high=9, cost=9, expiry=30)
            for budget in (0, 12):
                kernel = durable_kernel(rowset, query, budget=budget)
                self.assertEqual(durable_kernel(kernel, query, budget=budget), kernel)
                for seed in range(3):
                    deleted = affordable(rowset, budget, seed)
                    for now in range(0, 31, 3):
                        self.assertEqual(
                            selected_names(live_at(without(kernel, deleted), now), query),
                            selected_names(live_at(without(rowset, deleted), now), query))

    def test_the_default(self):
        for query in QUERIES:
            rowset = expiring_rowsets(query, 6)[1]
            self.assertEqual(durable_kernel(rowset, query), durable_kernel(rowset, query, budget=0))
        self.assertRaises(TypeError, durable_kernel, S, Q, 1)

    def test_errors(self):
        checked = [(0, ROWSET_CASES), (1, QUERY_CASES), ('budget', BUDGET_CASES)]
        check_errors(self, durable_kernel, {0: R, 1: Q}, checked)
        check_errors(self, durable_kernel, {0: R, 1: Q, 'budget': 0}, checked)
        check_raises(self, InvalidQuery, durable_kernel, (), ('group', 4, Q), budget=-1)


class SelectionStartsTest(unittest.TestCase):
    def check_starts(self, rowset, query, deleted):
        found = check_steady(self, selection_starts, rowset, query, deleted=deleted)
        rest = without(rowset, deleted)
        starts = {}
        for now in times_of(rest):
            chosen = plain_names(live_at(rest, now), query)
            for name in chosen:
                starts.setdefault(name, now)
            # What is selected stays so until it expires.
            self.assertEqual(chosen, tuple(sorted(
                row[0] for row in rest if row[0] in starts and now < row[3])))
        self.assertEqual(found, tuple(sorted(starts.items())), (rowset, query, deleted))

    def test_every_set_of_deleted_rows(self):
        for query in QUERIES:
            for rowset in expiring_rowsets(query, 5):
                for deleted in subsets(tuple(row[0] for row in rowset)):
                    self.check_starts(rowset, query, deleted)

    def test_names_in_any_order_and_repeated(self):
        for query in QUERIES[::3]:
            rowset = expiring_rowsets(query, 6)[1]
            for deleted in itertools.permutations(('aa', 'ac', 'ad')):
                self.check_starts(rowset, query, deleted)
                self.check_starts(rowset, query, deleted + deleted)

    def test_by_hand(self):
        for deleted, starts in (
                ((), (('b', 2), ('c', 0), ('e', 4))), (('c',), (('b', 0), ('e', 4))),
                (('b', 'c', 'b'), (('a', 0), ('e', 4))), (('a', 'b', 'c', 'd'), (('e', 0),)),
                (('e', 'd', 'c', 'b', 'a'), ()), (('e',), (('b', 2), ('c', 0)))):
            self.assertEqual(selection_starts(FIVE, Q, deleted=deleted), starts)
        self.assertEqual(selection_starts(FIVE, TOPS[0]), (('a', 0), ('e', 4)))
        self.assertEqual(selection_starts((), Q), ())

    def test_sixty_rows(self):
        for query in LARGE:
            rowset = random_rowset(8, 60, 2, high=9, expiry=30)
            found = dict(selection_starts(rowset, query))
            for now in range(31):
                live = live_at(rowset, now)
                self.assertEqual(selected_names(live, query), tuple(
                    row[0] for row in live if found.get(row[0], now + 1) <= now))

    def test_the_default(self):
        for query in QUERIES:
            rowset = expiring_rowsets(query, 6)[1]
            self.assertEqual(selection_starts(rowset, query), selection_starts(rowset, query, deleted=()))
        self.assertRaises(TypeError, selection_starts, S, Q, ())

    def test_errors(self):
        checked = [(0, ROWSET_CASES), (1, QUERY_CASES), ('deleted', DELETED_CASES)]
        check_errors(self, selection_starts, {0: R, 1: Q}, checked)
        check_errors(self, selection_starts, {0: R, 1: Q, 'deleted': ()}, checked)
        check_raises(self, (UnknownName, 'name', 'a'), selection_starts, (), Q, deleted=('a',))
        check_raises(self, InvalidQuery, selection_starts, (), ('group', 4, Q), deleted=None)


if __name__ == '__main__':
    unittest.main()
