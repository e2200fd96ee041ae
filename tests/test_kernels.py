"""Tests of spareskept.depths.kernels: 9.3."""

import unittest

from spareskept.depths.depths import row_depths
from spareskept.depths.kernels import MAX_BUDGET, kernel_rows
from spareskept.errors import InvalidNumber, InvalidRowset
from spareskept.queries.select import selected_names
from spareskept.rows.rowsets import union_rowsets
from tests.queries import LARGE, QUERIES, plain_depths, plain_selections, small_rowsets
from tests.test_select import QUERY_CASES
from tests.values import NOT_ROWSETS, Q, R, S
from tests.values import cases, check_errors, check_raises, check_steady, cost_of, holding, numbers_outside
from tests.values import random_rowset, random_source

BUDGETS = (0, 1, 3, 6)


def affordable(rowset, budget, seed):
    """Return the names of some rows whose total cost is at most the budget."""
    names = []
    for row in random_source(seed, budget).sample(rowset, len(rowset)):
        if row[1] <= budget:
            names.append(row[0])
            budget -= row[1]
    return tuple(names)


class KernelTest(unittest.TestCase):
    def check_kernel(self, rowset, query, budget):
        """Check the kernel after every deletion within the budget."""
        kernel = check_steady(self, kernel_rows, rowset, query, budget=budget)
        selections = plain_selections(rowset, query)
        seen = set()
        for kept, names in selections.items():
            if cost_of(rowset) - cost_of(kept) <= budget:
                self.assertEqual(selections[tuple(row for row in kept if row in kernel)], names, (kept, query))
                seen.update(names)
        self.assertEqual(tuple(row for row in rowset if row[0] in seen), kernel)
        return kernel

    def test_every_deletion(self):
        for query in QUERIES:
            for rowset in small_rowsets(query, 6)[:2]:
                for budget in BUDGETS:
                    kernel = self.check_kernel(rowset, query, budget)
                    depths = plain_depths(rowset, query)
                    expected = [row for row in rowset if depths[row[0]] is not None and depths[row[0]] <= budget]
                    self.assertEqual(kernel, tuple(expected))

    def test_large_costs(self):
        for query in QUERIES[::4]:
            rowset = small_rowsets(query, 6)[2]
            for budget in (0, rowset[0][1], rowset[0][1] - 1, cost_of(rowset) // 2, cost_of(rowset), MAX_BUDGET):
                self.check_kernel(rowset, query, budget)

    def test_smaller_budgets(self):
        for query in QUERIES:
            rowset = small_rowsets(query, 8)[1]
            for budget in BUDGETS:
                kernel = kernel_rows(rowset, query, budget=budget)
                for smaller in range(budget + 1):
                    self.assertEqual(
                        kernel_rows(kernel, query, budget=smaller), kernel_rows(rowset, query, budget=smaller))

    def test_unions(self):
        for query in QUERIES:
            rowset = small_rowsets(query, 9)[1]
            for budget in BUDGETS:
                whole = kernel_rows(rowset, query, budget=budget)
                for parts in ((rowset[:4], rowset[4:]), (rowset[::2], rowset[1::2]), (rowset[:6], rowset[3:]),
                              (rowset, ()), (rowset[::3], rowset[1::3], rowset[2::3])):
                    kernels = tuple(kernel_rows(part, query, budget=budget) for part in parts)
                    self.assertEqual(kernel_rows(union_rowsets(kernels), query, budget=budget), whole)

    def test_deleted_rows(self):
        for query in QUERIES:
            rowset = small_rowsets(query, 7)[1]
            for budget in BUDGETS:
                kernel = kernel_rows(rowset, query, budget=budget)
                for row in rowset:
                    rest = tuple(other for other in rowset if other != row)
                    if row not in kernel:
                        self.assertEqual(kernel_rows(rest, query, budget=budget), kernel)
                    elif row[1] <= budget:
                        left = tuple(other for other in kernel if other != row)
                        self.assertEqual(
                            kernel_rows(left, query, budget=budget - row[1]),
                            kernel_rows(rest, query, budget=budget - row[1]))

    def test_budgets(self):
        self.assertEqual(MAX_BUDGET, 10 ** 9)
        for budget, names in ((0, 'a'), (1, 'a'), (2, 'ab'), (3, 'abc'), (4, 'abc'), (10 ** 9, 'abc')):
            self.assertEqual(kernel_rows(S, Q, budget=budget), tuple(row for row in S if row[0] in names))
        for query in QUERIES:
            rowset = small_rowsets(query, 6)[0]
            depths = row_depths(rowset, query)
            self.assertEqual(
                kernel_rows(rowset, query, budget=10 ** 9),
                tuple(row for row in rowset if depths[row[0]] is not None))
            self.assertEqual(
                tuple(row[0] for row in kernel_rows(rowset, query, budget=0)), selected_names(rowset, query))
            self.assertEqual(kernel_rows((), query, budget=5), ())

    def test_the_default(self):
        for query in QUERIES:
            rowset = small_rowsets(query, 6)[1]
            self.assertEqual(kernel_rows(rowset, query), kernel_rows(rowset, query, budget=0))
        self.assertRaises(TypeError, kernel_rows, R, Q, 1)

    def test_sixty_rows(self):
        for query in LARGE:
            rowset = random_rowset(3, 60, 2, high=9, cost=50)
            depths = row_depths(rowset, query)
            for budget in (0, 20, 100):
                kernel = kernel_rows(rowset, query, budget=budget)
                self.assertEqual([row[0] for row in kernel], [
                    name for name, depth in depths.items() if depth is not None and depth <= budget])
                self.assertEqual(kernel_rows(kernel, query, budget=budget), kernel)
                for seed in range(4):
                    self.check_deletion(rowset, kernel, query, affordable(rowset, budget, seed))

    def check_deletion(self, rowset, kernel, query, deleted):
        stored = tuple(name for name in deleted if name in [row[0] for row in kernel])
        self.assertEqual(
            selected_names(kernel, query, deleted=stored), selected_names(rowset, query, deleted=deleted))

    def test_errors(self):
        check_errors(self, kernel_rows, {0: R, 1: Q}, [(0, cases(NOT_ROWSETS, InvalidRowset)), (1, QUERY_CASES)])
        check_errors(self, kernel_rows, {0: R, 1: Q, 'budget': 0}, [
            (0, cases(NOT_ROWSETS, InvalidRowset)), (1, QUERY_CASES),
            ('budget', holding(numbers_outside(0, 10 ** 9), InvalidNumber, 'value'))])
        for budget in (-1, 10 ** 9 + 1, True, False):
            check_raises(self, (InvalidNumber, 'value', budget), kernel_rows, (), Q, budget=budget)


if __name__ == '__main__':
    unittest.main()
