"""Tests of spareskept.selection.cuts: 6.2 and 6.3."""

import unittest

from spareskept.errors import UnknownName
from spareskept.selection.cuts import is_cut, is_flow, maximum_flow, minimum_cut
from spareskept.selection.forest import forest_names, lighter_edges
from tests.test_forest import FOREST_CASES, ORDERS, connected, edges
from tests.values import E, NOT_NAMES_OF_ROWS, ODD_VALUES, R
from tests.values import check_bool, check_errors, check_raises, check_steady, cost_of, holding, name_of
from tests.values import random_rowset, replaced, subsets

ERROR_CASES = FOREST_CASES + [(4, holding(NOT_NAMES_OF_ROWS, UnknownName, 'name'))]
ENDS = ((0, 1), (1, 0), (1, 2))

# Two ways of two edges each from node 1 to node 4, a bridge between them, and the last edge (1, 4).
BRIDGE = (('a', 3, (1, 2), 1), ('b', 2, (4, 2), 1), ('c', 1, (3, 2), 1), ('d', 2, (3, 1), 1), ('e', 4, (3, 4), 1),
          ('f', 9, (2, 2), 1), ('g', 1, (1, 4), 1), ('h', 5, (1, 4), 1))


def lighter_rows(rowset, a, b, order, name):
    names = lighter_edges(rowset, a, b, order, name)
    return tuple(row for row in rowset if row[0] in names)


def row_of(rowset, name):
    return next(row for row in rowset if row[0] == name)


def cuts_reference(rowset, a, b, order, name):
    """Return a dict from each set of lighter edges that cuts the edge to its cost."""
    edge = row_of(rowset, name)
    lighter = lighter_rows(rowset, a, b, order, name)
    found = {}
    for cut in subsets(lighter):
        others = [row for row in lighter if row not in cut]
        if not connected(others, a, b, edge[2][a], edge[2][b]):
            found[tuple(row[0] for row in cut)] = cost_of(cut)
    return found


def is_flow_reference(rowset, a, b, order, name, flow):
    """Return whether the flow, a tuple of pairs (amount, names) of lighter edges, is one in the words of 6.3."""
    edge = row_of(rowset, name)
    lighter = {row[0]: row for row in lighter_rows(rowset, a, b, order, name)}
    used = dict.fromkeys(lighter, 0)
    for amount, names in flow:
        nodes = [edge[2][a]]
        for step in names:
            ends = [lighter[step][2][a], lighter[step][2][b]]
            if nodes[-1] not in ends:
                return False
            ends.remove(nodes[-1])
            nodes += ends
            used[step] += amount
        if nodes[-1] != edge[2][b] or len(set(nodes)) < len(nodes) or amount < 1:
            return False
    return all(used[step] <= row[1] for step, row in lighter.items())


def value_of(flow):
    return sum(amount for amount, _ in flow)


class CutAndFlowTest(unittest.TestCase):
    def check_edge(self, rowset, a, b, order, name):
        """Check the cut and the flow against each other; return the cost of the cut."""
        cost, names = check_steady(self, minimum_cut, rowset, a, b, order, name)
        flow = check_steady(self, maximum_flow, rowset, a, b, order, name)
        self.assertEqual(names, tuple(sorted(set(names))))
        self.assertTrue(set(names) <= set(lighter_edges(rowset, a, b, order, name)))
        self.assertEqual(cost, cost_of(row for row in rowset if row[0] in names))
        self.assertIs(is_cut(rowset, a, b, order, name, names), True)
        self.assertIs(is_flow(rowset, a, b, order, name, flow), True)
        self.assertTrue(is_flow_reference(rowset, a, b, order, name, flow))
        self.assertEqual(value_of(flow), cost)
        return cost

    def test_all_sets(self):
        for seed in range(24):
            rowset = random_rowset(seed, 9, 3, high=2 + seed % 3, cost=10 ** 6 if seed % 4 == 0 else 5)
            for order in ORDERS[:2]:
                for a, b in ENDS:
                    for row in rowset[4:]:
                        if row[2][a] != row[2][b]:
                            cost = self.check_edge(rowset, a, b, order, row[0])
                            cuts = cuts_reference(rowset, a, b, order, row[0])
                            self.assertEqual(cost, min(cuts.values()))

    def test_larger_rowsets(self):
        for seed in range(6):
            rowset = random_rowset(seed, 60, 2, high=7 + seed, cost=10 ** 6)
            for row in rowset[::5]:
                if row[2][0] != row[2][1]:
                    self.check_edge(rowset, 0, 1, ((1, 'desc'),), row[0])

    def test_a_network_in_which_a_first_way_must_be_taken_back(self):
        for order in ((), ((0, 'asc'), (1, 'desc'))):
            self.check_edge(BRIDGE, 0, 1, order, 'g')
        self.assertEqual(self.check_edge(BRIDGE, 0, 1, (), 'g'), 5)
        self.assertEqual(self.check_edge(BRIDGE, 1, 0, (), 'g'), 5)
        self.assertEqual(self.check_edge(BRIDGE, 0, 1, (), 'h'), 6)
        rowset = edges((1, 2), (2, 3), (3, 8), (1, 4), (4, 3), (2, 5), (5, 8), (1, 8))
        self.assertEqual(self.check_edge(rowset, 0, 1, (), rowset[7][0]), 2)

    def test_equal_edges(self):
        rowset = tuple((name_of(number), 10 ** 6, (number % 2, 1 - number % 2), 1) for number in range(60))
        self.assertEqual(self.check_edge(rowset, 0, 1, (), rowset[59][0]), 59 * 10 ** 6)
        self.assertEqual(minimum_cut(rowset, 0, 1, (), rowset[59][0])[1], tuple(row[0] for row in rowset[:59]))

    def test_an_edge_from_a_node_to_itself(self):
        for function in (minimum_cut, maximum_flow):
            self.assertIsNone(function(E, 0, 1, (), 'e'))
        for function in (is_cut, is_flow):
            for value in ((), ('a',), ('a', 'b'), ((1, ('a', 'b')),), None):
                self.assertIs(function(E, 0, 1, (), 'e', value), False)

    def test_nodes_that_are_not_connected(self):
        for name in ('a', 'b'):
            self.assertEqual(minimum_cut(E, 0, 1, (), name), (0, ()))
            self.assertEqual(maximum_flow(E, 0, 1, (), name), ())
        rowset = edges((1, 2), (3, 4), (3, 3), (1, 4))
        self.assertEqual(minimum_cut(rowset, 0, 1, (), rowset[3][0]), (0, ()))
        self.assertEqual(maximum_flow(rowset, 0, 1, (), rowset[3][0]), ())

    def test_an_edge_is_in_the_forest_exactly_if_nothing_is_to_be_cut(self):
        for seed in range(20):
            rowset = random_rowset(seed, 12, 2, high=5)
            for order in ORDERS[:2]:
                forest = forest_names(rowset, 0, 1, order)
                for row in rowset:
                    self.assertEqual(minimum_cut(rowset, 0, 1, order, row[0]) == (0, ()), row[0] in forest)

    def test_errors(self):
        good = {0: R, 1: 0, 2: 1, 3: (), 4: 'ann'}
        for function in (minimum_cut, maximum_flow):
            check_errors(self, function, good, ERROR_CASES)
            check_raises(self, (UnknownName, 'name', 'ann'), function, (), 0, 1, (), 'ann')
        for function in (is_cut, is_flow):
            for value in ((), None, [1]):
                check_errors(self, function, {**good, 5: value}, ERROR_CASES)


class IsCutTest(unittest.TestCase):
    def test_all_sets(self):
        for seed in range(8):
            rowset = random_rowset(seed, 8, 2, high=3)
            for order in ORDERS[:2]:
                for row in rowset:
                    loop = row[2][0] == row[2][1]
                    cuts = cuts_reference(rowset, 0, 1, order, row[0])
                    for chosen in subsets(rowset):
                        names = tuple(other[0] for other in chosen)
                        found = check_steady(self, is_cut, rowset, 0, 1, order, row[0], names)
                        self.assertIs(found, names in cuts and not loop)

    def test_edges_from_a_node_to_itself_may_be_cut(self):
        self.assertIs(is_cut(BRIDGE, 0, 1, (), 'g', ('a', 'd', 'f')), True)
        self.assertIs(is_cut(BRIDGE, 0, 1, (), 'g', ('f',)), False)

    def test_not_cuts(self):
        self.assertIs(is_cut(E, 0, 1, (), 'd', ('a', 'c')), True)
        for value in (['a', 'c'], ('c', 'a'), ('a', 'a', 'c'), ('a', 'c', 'c'), ('a', 'c', 'd'), ('a', 'c', 'e'),
                      ('a', 'c', 'zoe'), ('a', 'c', 1), (None, 'a', 'c'), ('a', ['c']), {'a': 1, 'c': 1}, 'ac',
                      ('ac',), (('a', 'c'),), ('a',), ('c',), (), None, 5, (5, ('a', 'c'))):
            self.assertIs(is_cut(E, 0, 1, (), 'd', value), False, value)

    def test_any_value(self):
        for value in ODD_VALUES:
            self.assertIs(is_cut(E, 0, 1, (), 'd', value), False, value)
            self.assertIs(is_cut(E, 0, 1, (), 'a', value), value == (), value)
        for value in replaced(('a', 'c')):
            check_bool(self, is_cut(E, 0, 1, (), 'd', value))


class IsFlowTest(unittest.TestCase):
    def check_flow(self, flow, expected, *, name='g'):
        self.assertIs(check_steady(self, is_flow, BRIDGE, 0, 1, (), name, flow), expected, flow)

    def test_flows(self):
        for flow in ((), ((1, ('a', 'b')),), ((2, ('a', 'b')),), ((1, ('a', 'b')), (1, ('a', 'b'))),
                     ((2, ('d', 'e')), (2, ('a', 'b')), (1, ('a', 'c', 'e'))), ((1, ('d', 'c', 'b')),)):
            self.check_flow(flow, True)
        self.check_flow(((1, ('g',)), (2, ('a', 'b'))), True, name='h')

    def test_costs(self):
        for flow in (((3, ('a', 'b')),), ((2, ('a', 'b')), (1, ('a', 'b'))), ((1, ('a', 'b')),) * 3,
                     ((1, ('a', 'c', 'e')), (1, ('d', 'c', 'b'))), ((2, ('d', 'e')), (1, ('d', 'e'))),
                     ((2, ('a', 'c', 'e')),)):
            self.check_flow(flow, False)
        self.check_flow(((2, ('g',)),), False, name='h')

    def test_amounts(self):
        for amount in (0, -1, True, False, None, '1', (1,), [1], 10 ** 6 + 1, 10 ** 49, -10 ** 49):
            self.check_flow(((amount, ('a', 'b')),), False)
            self.check_flow(((1, ('d', 'e')), (amount, ('a', 'b'))), False)
        costly = (('a', 10 ** 6, (1, 2), 1), ('b', 1, (1, 2), 1))
        self.assertIs(is_flow(costly, 0, 1, (), 'b', ((10 ** 6, ('a',)),)), True)
        self.assertIs(is_flow(costly, 0, 1, (), 'b', ((10 ** 6 + 1, ('a',)),)), False)

    def test_paths(self):
        for names in ((), ('a',), ('b', 'a'), ('e', 'd'), ('a', 'e'), ('a', 'a', 'a', 'b'), ('a', 'f', 'b'),
                      ('a', 'c', 'd', 'a', 'b'), ('a', 'c', 'c', 'b'), ('a', 'c', 'd'), ('b',), ('g',), ('h',),
                      ('a', 'b', 'e'), ('a', 'b', 'e', 'e'), ('zoe',), ('a', 'b', None), ('a', 1), ('a', ['b']),
                      ['a', 'b'], 'ab', {'a': 1, 'b': 1}, None, (('a', 'b'),)):
            self.check_flow(((1, names),), False)
            self.check_flow(((1, ('d', 'e')), (1, names)), False)

    def test_shapes(self):
        pair = (1, ('a', 'b'))
        for value in ([pair], pair, (list(pair),), (pair + (1,),), ((1,),), (('a', 'b'),), ((('a', 'b'), 1),), (None,),
                      (pair, None), {1: ('a', 'b')}, ((),), 'ab', 1, True, None):
            self.check_flow(value, False)

    def test_the_direction_of_the_edge(self):
        self.assertIs(is_flow(BRIDGE, 1, 0, (), 'g', ((1, ('b', 'a')),)), True)
        self.assertIs(is_flow(BRIDGE, 1, 0, (), 'g', ((1, ('a', 'b')),)), False)

    def test_any_value(self):
        for value in ODD_VALUES:
            self.check_flow(value, value == ())
        for value in replaced(((2, ('a', 'b')), (1, ('d', 'e')))):
            check_bool(self, is_flow(BRIDGE, 0, 1, (), 'g', value))

    def test_against_the_reference(self):
        ways = [way for size in (1, 2, 3) for way in sequences('abcde', size)]
        for first in ways:
            for second in ways[::9]:
                flow = ((1, first), (1, second))
                self.assertIs(
                    is_flow(BRIDGE, 0, 1, (), 'g', flow), is_flow_reference(BRIDGE, 0, 1, (), 'g', flow), flow)


def sequences(letters, size):
    """Return all tuples of so many letters."""
    results = [()]
    for _ in range(size):
        results = [way + (letter,) for way in results for letter in letters]
    return results


if __name__ == '__main__':
    unittest.main()
