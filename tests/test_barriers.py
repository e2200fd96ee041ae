"""Tests of spareskept.certificates.barriers: 10.2."""

import unittest

from spareskept.certificates.barriers import find_barrier, is_barrier
from spareskept.depths.depths import row_depth
from spareskept.errors import InvalidNumber, InvalidQuery
from tests.queries import BLOCK, LEAVES, NOBODY, QUERIES, SKYLINES
from tests.queries import plain_condition, plain_depths, plain_names, small_rowsets
from tests.test_cuts import BRIDGE, is_flow_reference
from tests.test_depths import TARGET_CASES
from tests.values import ODD_VALUES, Q, R, S
from tests.values import check_bool, check_errors, check_raises, check_steady, holding, numbers_outside, random_rowset
from tests.values import replaced, subsets

BUDGET_CASES = holding(numbers_outside(0, 10 ** 9), InvalidNumber, 'value')
BARRIER_CASES = TARGET_CASES + [('budget', BUDGET_CASES)]
BUDGETS = (0, 1, 2, 4, 9, 10 ** 9)
FOREST = ('forest', 0, 1, ())


def names_of(rows):
    return tuple(row[0] for row in rows)


def plain_barrier(rowset, query, row, value, budget):
    """Return whether the value, of the right form for the query, is a barrier in the words of 10.2."""
    if not plain_names((row,), query):
        return value == ('never',)
    if value == ('never',):
        return False
    if query[0] == 'where':
        kept = tuple(other for other in rowset if plain_condition(other, query[1]))
        return plain_barrier(kept, query[2], row, value, budget)
    if query[0] == 'group':
        kept = tuple(other for other in rowset if other[2][query[1]] == row[2][query[1]])
        return plain_barrier(kept, query[2], row, value, budget)
    word, content = value
    if query[0] == 'union':
        pairs = zip(query[1], content, strict=True)
        return word == 'all' and all(plain_barrier(rowset, part, row, other, budget) for part, other in pairs)
    if query[0] == 'forest':
        amount = sum(pair[0] for pair in content)
        return word == 'flow' and is_flow_reference(rowset, *query[1:], row[0], content) and amount > budget
    kept = tuple(other for other in rowset if other[0] in content or other == row)
    return word == 'rows' and row[0] not in content and plain_depths(kept, query)[row[0]] > budget


def kinds_of(barrier):
    """Return the words of the barrier and of those within it."""
    if barrier[0] == 'all':
        return {'all'}.union(*[kinds_of(part) for part in barrier[1]])
    return {barrier[0]}


class FindBarrierTest(unittest.TestCase):
    def check_row(self, rowset, query, row, budget):
        depth = row_depth(rowset, query, row[0])
        found = check_steady(self, find_barrier, rowset, query, row[0], budget=budget)
        self.assertIs(found is None, depth is not None and depth <= budget, (rowset, query, row, budget))
        self.assertIs(found == ('never',), depth is None)
        if found is not None:
            self.assertIs(check_steady(self, is_barrier, rowset, query, row[0], found, budget=budget), True)
            self.assertTrue(plain_barrier(rowset, query, row, found, budget), (rowset, query, row, found, budget))
        return found

    def test_every_query(self):
        for query in QUERIES:
            for rowset in small_rowsets(query, 6)[:2]:
                for row in rowset:
                    for budget in BUDGETS:
                        self.check_row(rowset, query, row, budget)

    def test_budgets_at_the_depth(self):
        for query in QUERIES:
            rowset = small_rowsets(query, 6)[2]
            for row in rowset:
                depth = row_depth(rowset, query, row[0])
                if depth is not None:
                    for budget in range(max(0, depth - 1), depth + 2):
                        self.check_row(rowset, query, row, budget)

    def test_every_kind_of_barrier(self):
        found = {}
        for query in QUERIES:
            for seed in range(8):
                rowset = random_rowset(seed, 8, 2, high=2)
                for row in rowset:
                    barrier = find_barrier(rowset, query, row[0])
                    if barrier is not None:
                        found.setdefault(query[0], set()).update(kinds_of(barrier))
        self.assertEqual(found, {
            'top': {'rows'}, 'capped': {'rows'}, 'skyline': {'rows'}, 'hull': {'rows'}, 'table': {'rows', 'never'},
            'forest': {'flow', 'never'}, 'where': {'rows', 'flow', 'never'}, 'group': {'rows', 'flow', 'all', 'never'},
            'union': {'all', 'rows', 'flow', 'never'}})

    def test_the_default(self):
        for query in QUERIES:
            rowset = small_rowsets(query, 5)[1]
            for name in names_of(rowset):
                found = find_barrier(rowset, query, name, budget=0)
                self.assertEqual(find_barrier(rowset, query, name), found)
                self.assertIs(is_barrier(rowset, query, name, found), is_barrier(rowset, query, name, found, budget=0))
        self.assertRaises(TypeError, find_barrier, R, Q, 'ann', 1)
        self.assertRaises(TypeError, is_barrier, R, Q, 'ann', (), 1)

    def test_errors(self):
        check_errors(self, find_barrier, {0: R, 1: Q, 2: 'ann'}, TARGET_CASES)
        check_errors(self, find_barrier, {0: R, 1: Q, 2: 'ann', 'budget': 0}, BARRIER_CASES)
        for value in (('never',), None, [1]):
            check_errors(self, is_barrier, {0: R, 1: Q, 2: 'ann', 3: value, 'budget': 0}, BARRIER_CASES)
        check_raises(self, InvalidQuery, find_barrier, (), ('group', 4, Q), 'ann', budget=-1)


class RowsTest(unittest.TestCase):
    def test_every_set_of_rows(self):
        for query in LEAVES:
            if query[0] != 'forest':
                rowset = small_rowsets(query, 5)[1]
                depths = {kept: plain_depths(kept, query) for kept in subsets(rowset)}
                for row in rowset:
                    for chosen in subsets(rowset):
                        kept = tuple(other for other in rowset if other in chosen or other == row)
                        depth = depths[kept][row[0]]
                        for budget in (0, 2, 5):
                            value = ('rows', names_of(chosen))
                            expected = depth is not None and depth > budget and row not in chosen
                            self.assertIs(is_barrier(rowset, query, row[0], value, budget=budget), expected)

    def test_more_rows_than_needed(self):
        for names in (('a',), ('a', 'b')):
            self.assertIs(is_barrier(S, Q, 'c', ('rows', names), budget=1), True)
        self.assertIs(is_barrier(S, Q, 'c', ('rows', ('b',)), budget=1), False)
        self.assertIs(is_barrier(S, Q, 'c', ('rows', ('b',)), budget=0), True)
        self.assertIs(is_barrier(S, Q, 'c', ('rows', ('a', 'b')), budget=2), True)
        self.assertIs(is_barrier(S, Q, 'c', ('rows', ('a', 'b')), budget=3), False)
        self.assertIs(is_barrier(S, Q, 'b', ('rows', ('a', 'c')), budget=1), True)

    def test_values_one_step_wrong(self):
        self.assertIs(is_barrier(S, Q, 'c', ('rows', ('a', 'b')), budget=2), True)
        for value in (('rows', ('a',)), ('rows', ('b',)), ('rows', ('a', 'b', 'c')), ('rows', ('b', 'a')),
                      ('rows', ('a', 'a', 'b')), ('rows', ('a', 'b', 'd')), ('rows', ['a', 'b']), ['rows', ('a', 'b')],
                      ('rows', ('a', 'b'), ()), ('rows',), (('a', 'b'),), ('a', 'b'), ('row', ('a', 'b')),
                      ('flow', ('a', 'b')), ('all', ('a', 'b')), ('never', ('a', 'b')), ('never',), ('rows', 'ab'),
                      ('rows', ('ab',)), ('rows', ()), ('rows', None), ('rows', ('a', None)), ('rows', ('a', ['b'])),
                      (('a', 'b'), 'rows'), ('rows', {'a': 1, 'b': 1}), ('rows', (('a', 'b'),)), (None, ('a', 'b')),
                      (['rows'], ('a', 'b')), (True, ('a', 'b')), {'rows': ('a', 'b')}, None, 'rows', 1, ()):
            self.assertIs(check_steady(self, is_barrier, S, Q, 'c', value, budget=2), False, value)

    def test_any_value(self):
        for query in (Q, ('capped', (), 1, 0, 1), ('skyline', ((0, 'asc', 0),)),
                      ('table', (('a', 'b'), (('a',), ('b',), ('a',))))):
            for value in ODD_VALUES:
                for word in ('rows', 'flow', 'all', 'never', 'exposed'):
                    for whole in (value, (word, value), (word, (value,)), (value, ('a', 'b'))):
                        self.assertIs(is_barrier(S, query, 'b', whole, budget=1), False, whole)
        for value in replaced(('rows', ('a', 'b'))):
            check_bool(self, is_barrier(S, Q, 'c', value, budget=2))


class NeverTest(unittest.TestCase):
    CASES = (
        (S, ('table', NOBODY), 'a'), (S, ('table', BLOCK), 'a'), (BRIDGE, FOREST, 'f'),
        (S, ('where', ('ge', 0, 2), Q), 'a'),
        (S, ('where', ('le', 0, 2), ('table', NOBODY)), 'a'), (BRIDGE, ('group', 0, FOREST), 'f'),
        (S, ('group', 0, ('where', ('ge', 0, 2), Q)), 'a'),
        (S, ('union', (('table', NOBODY), ('where', ('ge', 0, 2), Q), ('table', BLOCK))), 'a'),
        (BRIDGE, ('where', ('ge', 0, 1), ('group', 1, ('union', (FOREST, ('table', NOBODY))))), 'f'),
    )

    def test_the_only_barrier(self):
        for rowset, query, name in self.CASES:
            for budget in (0, 10 ** 9):
                self.assertEqual(find_barrier(rowset, query, name, budget=budget), ('never',))
                self.assertIs(is_barrier(rowset, query, name, ('never',), budget=budget), True)
                for value in (('rows', ()), ('rows', ('b',)), ('flow', ()), ('flow', ((1, ('a', 'b')),)), ('all', ()),
                              ('all', (('never',), ('never',))), ('all', (('never',),) * 3), ['never'], 'never', (),
                              ('never', ()), ('never', 'never'), ('never', None), (('never',),), (None,), ('Never',)):
                    self.assertIs(is_barrier(rowset, query, name, value, budget=budget), False, (query, value))
                for value in ODD_VALUES:
                    self.assertIs(is_barrier(rowset, query, name, value, budget=budget), False)

    def test_rows_that_are_selected_alone(self):
        for query in QUERIES:
            rowset = small_rowsets(query, 5)[0]
            for row in rowset:
                alone = plain_names((row,), query) == (row[0],)
                for budget in (0, 3):
                    self.assertIs(is_barrier(rowset, query, row[0], ('never',), budget=budget), not alone)

    def test_the_inner_rowset(self):
        query = ('union', (('where', ('ge', 0, 3), Q), ('where', ('le', 0, 2), Q)))
        self.assertEqual(find_barrier(S, query, 'b', budget=1), ('all', (('never',), ('rows', ('a',)))))
        for value in (('all', (('never',), ('rows', ('a', 'c')))), ('all', (('never',), ('never',))), ('never',),
                      ('all', (('rows', ()), ('rows', ('a',)))), ('all', (('rows', ('a',)), ('never',)))):
            self.assertIs(is_barrier(S, query, 'b', value, budget=1), False)


class FlowTest(unittest.TestCase):
    def check_flow(self, flow, budget, expected):
        self.assertIs(check_steady(self, is_barrier, BRIDGE, FOREST, 'g', ('flow', flow), budget=budget), expected)

    def test_flows_that_others_made(self):
        top, low, over = (2, ('a', 'b')), (2, ('d', 'e')), (1, ('a', 'c', 'e'))
        for flow in ((top, low, over), (over, low, top), ((1, ('a', 'b')), low, (1, ('a', 'b')), over),
                     ((1, ('d', 'e')), over, (1, ('d', 'e')), top)):
            for budget in range(8):
                self.check_flow(flow, budget, budget < 5)
        for flow, value in (((top,), 2), ((top, over), 3), ((low, top), 4), (((1, ('d', 'c', 'b')),), 1), ((), 0)):
            for budget in range(6):
                self.check_flow(flow, budget, budget < value)

    def test_values_one_step_wrong(self):
        good = ((2, ('a', 'b')), (2, ('d', 'e')))
        self.check_flow(good, 3, True)
        for flow in (((2, ('a', 'b')), (2, ('d', 'f', 'e'))), ((3, ('a', 'b')), (2, ('d', 'e'))), list(good),
                     ((2, ('b', 'a')), (2, ('d', 'e'))), ((2, ('a', 'b')), (2, ['d', 'e'])), good + ((0, ('a', 'b')),),
                     ((2, ('a', 'b')), [2, ('d', 'e')]), good + (None,), good + ((1, ('g',)),), good + ((1, ('h',)),),
                     ((2, ('a', 'b')), (True, ('d', 'e')), (1, ('d', 'e'))), None, 4, (4,), good[0]):
            self.check_flow(flow, 3, False)
        for value in (('rows', good), ('flow', good, ()), ['flow', good], good, ('flow',), ('flows', good), (good,)):
            self.assertIs(is_barrier(BRIDGE, FOREST, 'g', value, budget=3), False)
        for value in replaced(('flow', good)):
            check_bool(self, is_barrier(BRIDGE, FOREST, 'g', value, budget=3))
        for value in ODD_VALUES:
            self.assertIs(is_barrier(BRIDGE, FOREST, 'g', value), False)
            self.assertIs(is_barrier(BRIDGE, FOREST, 'g', ('flow', value)), False)

    def test_the_edges_of_the_part(self):
        query = ('where', ('le', 0, 3), FOREST)
        flow = ('flow', ((2, ('a', 'b')), (1, ('d', 'e'))))
        self.assertIs(is_barrier(BRIDGE, FOREST, 'g', flow, budget=2), True)
        self.assertIs(is_barrier(BRIDGE, query, 'g', flow, budget=2), False)
        self.assertIs(is_barrier(BRIDGE, query, 'g', ('flow', ((2, ('d', 'e')),)), budget=1), True)
        self.assertIs(is_barrier(BRIDGE, ('group', 0, FOREST), 'g', ('flow', ((2, ('a', 'b')),)), budget=1), False)
        self.assertIs(is_barrier(BRIDGE, ('group', 0, FOREST), 'h', ('flow', ((1, ('g',)),))), True)


class NestedTest(unittest.TestCase):
    ROWS = (('a', 2, (0, 1), 1), ('b', 3, (1, 1), 1), ('c', 4, (2, 0), 1), ('d', 5, (3, 1), 1), ('e', 6, (4, 0), 1))
    FIRST = ('top', ((0, 'asc'),), 1)

    def check(self, query, name, budget, good, bad):
        for value in good:
            self.assertIs(is_barrier(self.ROWS, query, name, value, budget=budget), True, value)
        for value in bad:
            self.assertIs(is_barrier(self.ROWS, query, name, value, budget=budget), False, value)

    def test_where(self):
        self.check(('where', ('ge', 0, 1), self.FIRST), 'd', 3,
                   [('rows', ('b', 'c')), ('rows', ('b', 'c', 'e')), ('rows', ('c',))], [
            ('rows', ('a', 'b', 'c')), ('rows', ('a', 'c')), ('rows', ('b',)), ('rows', ()), ('never',)])

    def test_group(self):
        self.check(('group', 1, self.FIRST), 'd', 2, [('rows', ('a', 'b')), ('rows', ('b',))], [
            ('rows', ('a',)), ('rows', ('a', 'b', 'c')), ('rows', ('a', 'b', 'c', 'e')), ('rows', ('c',)), ('never',)])

    def test_union(self):
        query = ('union', (self.FIRST, ('group', 1, self.FIRST), ('where', ('le', 0, 2), self.FIRST)))
        one, two, never = ('rows', ('a', 'b', 'c')), ('rows', ('a', 'b')), ('never',)
        self.check(query, 'd', 4, [('all', (one, two, never)), ('all', (('rows', ('a', 'c', 'e')), two, never))], [
            ('all', (one, two)), ('all', (one, two, never, never)), ('all', (two, one, never)),
            ('all', (never, two, one)),
            ('all', (one, never, never)), ('all', (one, ('rows', ('b',)), never)), ('all', [one, two, never]),
            ['all', (one, two, never)], ('all', one, two, never), (one, two, never), ('rows', (one, two, never)),
            ('all', (one, two, one)), ('all', (one, one, never)), ('all', (one, list(two), never)), ('all', ()),
            ('all', (one, two, None)), ('all', None), one, two, never, ('all',), ('all', {one: 1, two: 1, never: 1})])

    def test_deep(self):
        query = ('where', ('le', 0, 3), ('group', 1, ('union', (self.FIRST, SKYLINES[0]))))
        both, second, whole = ('rows', ('a', 'b')), ('rows', ('b',)), ('rows', ('a', 'c'))
        self.check(query, 'd', 2, [('all', (both, second)), ('all', (second, both)), ('all', (second, second))], [
            ('all', (both, whole)), ('all', (('rows', ('a',)), second)), ('all', (both,)), both, second, ('never',),
            ('all', (both, second, second)), ('all', (both, ('rows', ('b', 'e'))))])
        query = ('union', (('where', ('le', 0, 3), ('group', 1, self.FIRST)), self.FIRST))
        self.check(query, 'd', 2, [('all', (both, whole)), ('all', (second, whole)), ('all', (both, both))], [
            ('all', (whole, both)), ('all', (('all', (both,)), whole)), ('all', (both, ('rows', ('a',)))), both])

    def test_any_value(self):
        query = ('union', (self.FIRST, ('group', 1, self.FIRST)))
        for value in ODD_VALUES:
            for whole in (value, ('all', value), ('all', (value, value)), ('all', (('rows', value), value))):
                self.assertIs(is_barrier(self.ROWS, query, 'd', whole, budget=1), False)
        good = ('all', (('rows', ('a', 'b', 'c')), ('rows', ('a', 'b'))))
        self.assertIs(is_barrier(self.ROWS, query, 'd', good, budget=4), True)
        for value in replaced(good):
            check_bool(self, is_barrier(self.ROWS, query, 'd', value, budget=4))


if __name__ == '__main__':
    unittest.main()
