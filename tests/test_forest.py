"""Tests of spareskept.selection.forest: 6.1."""

import unittest

from spareskept.errors import InvalidNumber, InvalidOrder, InvalidRowset, UnknownName
from spareskept.rows.orders import precedes, sorted_names
from spareskept.selection.forest import forest_names, lighter_edges
from tests.values import E, NOT_NAMES_OF_ROWS, NOT_ORDERS, NOT_ROWSETS, R
from tests.values import cases, check_errors, check_raises, check_selection, check_steady, holding, name_of
from tests.values import numbers_outside, random_rowset, rows_of_width

ORDERS = ((), ((0, 'asc'),), ((2, 'desc'), (1, 'asc')), ((1, 'desc'), (2, 'asc'), (0, 'asc')))
FOREST_CASES = [
    (0, cases(NOT_ROWSETS, InvalidRowset)),
    (1, holding(numbers_outside(0, 1), InvalidNumber, 'value')),
    (2, holding(numbers_outside(0, 1) + (0,), InvalidNumber, 'value')),
    (3, cases(NOT_ORDERS + (((2, 'asc'),),), InvalidOrder)),
]


def edges(*pairs):
    """Return a rowset with one edge of cost 1 for each pair of nodes."""
    return tuple((name_of(number), 1, pair, 1) for number, pair in enumerate(pairs))


def connected(rows, a, b, start, goal):
    """Return whether the edges connect the two nodes."""
    found = {start}
    for _ in rows:
        for row in rows:
            ends = {row[2][a], row[2][b]}
            if ends & found:
                found |= ends
    return goal in found


def forest_reference(rowset, a, b, order):
    """Return the forest in the words of 6.1."""
    rows = {row[0]: row for row in rowset}
    taken = []
    for name in sorted_names(rowset, order):
        row = rows[name]
        if not connected(taken, a, b, row[2][a], row[2][b]):
            taken.append(row)
    return tuple(sorted(row[0] for row in taken))


class ForestTest(unittest.TestCase):
    def test_many_rowsets(self):
        for seed in range(30):
            rowset = random_rowset(seed, seed % 15, 3, high=1 + seed % 6)
            for order in ORDERS:
                for a, b in ((0, 1), (1, 0), (2, 0)):
                    found = check_steady(self, forest_names, rowset, a, b, order)
                    self.assertEqual(found, forest_reference(rowset, a, b, order))

    def test_equal_edges(self):
        rowset = edges((1, 2), (1, 2), (2, 1))
        self.assertEqual(forest_names(rowset, 0, 1, ()), (rowset[0][0],))
        self.assertEqual(forest_names(rowset, 0, 1, ((0, 'desc'),)), (rowset[2][0],))
        self.assertEqual(forest_names(rowset, 1, 0, ()), (rowset[0][0],))

    def test_edges_from_a_node_to_itself(self):
        rowset = edges((1, 1), (1, 2), (2, 2), (2, 1))
        self.assertEqual(forest_names(rowset, 0, 1, ()), (rowset[1][0],))
        self.assertEqual(forest_names(rowset[:1], 0, 1, ()), ())

    def test_several_components(self):
        rowset = edges((1, 2), (8, 9), (2, 3), (9, 8), (3, 1), (5, 6), (3, 8))
        self.assertEqual(forest_names(rowset, 0, 1, ()), tuple(rowset[number][0] for number in (0, 1, 2, 5, 6)))

    def test_an_order_that_names_columns(self):
        rowset = tuple((row[0], 1, row[2] + (weight,), 1) for row, weight in zip(
            edges((1, 2), (2, 3), (3, 1)), (7, -10 ** 9, 10 ** 9)))
        for direction, numbers in (('asc', (0, 1)), ('desc', (0, 2))):
            expected = tuple(rowset[number][0] for number in numbers)
            self.assertEqual(forest_names(rowset, 0, 1, ((2, direction),)), expected)

    def test_sizes(self):
        self.assertEqual(forest_names((), 0, 3, ((2, 'asc'),)), ())
        chain = edges(*[(number, number + 1) for number in range(60)])
        self.assertEqual(len(forest_names(chain, 0, 1, ())), 60)
        rowset = random_rowset(4, 60, 3, high=30)
        for order in ORDERS:
            self.assertEqual(forest_names(rowset, 0, 1, order), forest_reference(rowset, 0, 1, order))

    def test_path_independence(self):
        for seed in range(6):
            for order in ORDERS[:2]:
                check_selection(
                    self, lambda rows: forest_names(rows, 0, 1, order), random_rowset(seed, 6, 2, high=2))

    def test_errors(self):
        check_errors(self, forest_names, {0: R, 1: 0, 2: 1, 3: ()}, FOREST_CASES)
        check_raises(self, (InvalidNumber, 'value', 1), forest_names, R, 1, 1, None)
        check_raises(self, (InvalidNumber, 'value', 4), forest_names, (), 0, 4, ())
        check_raises(self, InvalidOrder, forest_names, (), 0, 3, ((4, 'asc'),))
        check_raises(self, (InvalidNumber, 'value', 0), forest_names, rows_of_width(1, 1), 0, 0, ())


class LighterEdgesTest(unittest.TestCase):
    def test_lighter_edges(self):
        for seed in range(8):
            rowset = random_rowset(seed, 10, 3, high=2)
            for order in ORDERS:
                for row in rowset:
                    expected = tuple(other[0] for other in rowset if precedes(order, other, row))
                    self.assertEqual(check_steady(self, lighter_edges, rowset, 0, 1, order, row[0]), expected)

    def test_edges_from_a_node_to_itself_are_included(self):
        self.assertEqual(lighter_edges(E, 0, 1, ((0, 'desc'),), 'b'), ('e',))
        self.assertEqual(lighter_edges(E, 0, 1, (), 'e'), ('a', 'b', 'c', 'd'))

    def test_errors(self):
        check_errors(self, lighter_edges, {0: R, 1: 0, 2: 1, 3: (), 4: 'ann'}, FOREST_CASES + [
            (4, holding(NOT_NAMES_OF_ROWS, UnknownName, 'name'))])
        check_raises(self, (UnknownName, 'name', 'ann'), lighter_edges, (), 0, 1, (), 'ann')


if __name__ == '__main__':
    unittest.main()
