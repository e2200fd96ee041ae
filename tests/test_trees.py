"""Tests of spareskept.stores.trees: 13.3 and 13.4."""

import unittest

from spareskept.errors import InvalidNumber, InvalidQuery, InvalidRowset, InvalidTree, NameConflict
from spareskept.expiry.durable import durable_kernel
from spareskept.rows.rowsets import union_rowsets
from spareskept.stores.trees import find_distinction, is_distinction, is_merge_tree, root_kernel, transfer_count
from spareskept.stores.trees import tree_rows
from tests.queries import LARGE, QUERIES, expiring_rowsets, live_at, plain_names, times_of
from tests.test_depths import rows_of, without
from tests.test_outcomes import BUDGET_CASES, EACH, different_rows
from tests.test_select import QUERY_CASES
from tests.test_store import made
from tests.values import E, NOT_ROWSETS, ODD_VALUES, Q, R, S, SIXTY, SIXTY_ONE
from tests.values import cases, check_bool, check_errors, check_raises, check_steady, cost_of, random_rowset
from tests.values import random_source, replaced, subsets

A, B, C = S
LEAF = ('leaf', S)
ROWSET_CASES = cases(NOT_ROWSETS, InvalidRowset)
Q2 = ('top', ((1, 'asc'),), 1)


def chain(height, leaf=LEAF):
    """Return a tree of this height, each node of which has one child."""
    return leaf if height == 1 else ('merge', (chain(height - 1, leaf),))


def full(height, children, leaf=LEAF):
    """Return a tree of this height, each node of which has so many children."""
    return leaf if height == 1 else ('merge', (full(height - 1, children, leaf),) * children)


def random_tree(source, rowset, height):
    """Return a tree of at most this height whose leaves hold rows of the rowset."""
    if height == 1 or source.randrange(4) == 0:
        return ('leaf', tuple(row for row in rowset if source.randrange(3)))
    return ('merge', tuple(random_tree(source, rowset, height - 1) for _ in range(source.randint(1, 4))))


def leaves_of(tree):
    return [tree[1]] if tree[0] == 'leaf' else [leaf for child in tree[1] for leaf in leaves_of(child)]


def plain_kernels(tree, query, budget):
    """Return the kernel of the root, and the number of rows in the kernels of all nodes."""
    if tree[0] == 'leaf':
        kernel = durable_kernel(tree[1], query, budget=budget)
        return kernel, len(kernel)
    below = [plain_kernels(child, query, budget) for child in tree[1]]
    kernel = durable_kernel(union_rowsets(tuple(part for part, _ in below)), query, budget=budget)
    return kernel, len(kernel) + sum(count for _, count in below)


FIVE_CHILDREN = ('merge', (('leaf', ()),) * 5)
NOT_TREES = (
    None, 1, True, '', 'leaf', (), [], {}, S, Q, ('leaf',), ('merge',), ('leaf', S, S), ('merge', (LEAF,), ()),
    list(LEAF), ('Leaf', S), ('leaf', list(S)), ('leaf', A), ('leaf', (B, A)), ('leaf', SIXTY_ONE), ('leaf', None),
    ('merge', ()), ('merge', []), ('merge', [LEAF]), ('merge', LEAF), ('merge', None), ('merge', (LEAF, None)),
    ('merge', (LEAF, S)), ('merge', (('merge', ()),)), ('merge', (LEAF, ('merge', ()))), FIVE_CHILDREN,
    ('merge', (LEAF, FIVE_CHILDREN)), ('merge', (LEAF,) * 5), ('merges', (LEAF,)), (('leaf', S), ('leaf', S)),
    chain(7), ('merge', (LEAF, chain(6))), ('leaf', ('leaf', S)), ('merge', {0: LEAF}), (LEAF,), ('leaf', {}),
    # Rows in conflict, different widths, more than sixty rows in all.
    ('merge', (LEAF, ('leaf', (('a', 2, (1,), 8),)))), ('merge', (('merge', (('leaf', (('b', 1, (3,), 5),)),)), LEAF)),
    ('merge', (LEAF, ('leaf', R))), ('merge', (('leaf', E), ('leaf', ()), ('merge', (LEAF,)))),
    ('merge', (('leaf', SIXTY), ('leaf', (('zz', 1, (1, 1), 1),)))),
)
TREE_CASES = cases(NOT_TREES, InvalidTree)


class TreeTest(unittest.TestCase):
    def test_trees(self):
        for tree in (LEAF, ('leaf', ()), chain(2), chain(6), full(6, 2), full(3, 4), full(6, 4, ('leaf', S[:1])),
                     ('merge', (LEAF, ('leaf', (A, C)), ('leaf', ()), ('merge', (LEAF, chain(4))))),
                     ('merge', (LEAF, chain(5))), ('merge', (('leaf', SIXTY), ('leaf', SIXTY[:30]))),
                     ('merge', (('leaf', SIXTY[:40]), ('leaf', SIXTY[20:]), ('leaf', ()), ('leaf', ()))),
                     ('merge', (('leaf', ()), ('leaf', R)))):
            self.assertIs(check_steady(self, is_merge_tree, tree), True)

    def test_other_values(self):
        for value in NOT_TREES + ODD_VALUES:
            self.assertIs(check_steady(self, is_merge_tree, value), False, value)
        self.assertIs(is_merge_tree(made()), False)
        for value in ODD_VALUES:
            for tree in (('leaf', value), ('merge', value), ('merge', (value,)), ('merge', (LEAF, value)), (value, S),
                         (value, (LEAF,)), ('leaf', (A, value)), ('leaf', S, value)):
                self.assertIs(is_merge_tree(tree), tree == ('leaf', ()))
        for value in replaced(('merge', (('leaf', S[:2]), ('merge', (('leaf', S[1:]),))))):
            check_bool(self, is_merge_tree(value))
            if value != ('leaf', ()):
                self.check_not(value)

    def check_not(self, value):
        """Check that the value is a tree or raises the error where a tree is needed."""
        if not is_merge_tree(value):
            check_raises(self, InvalidTree, tree_rows, value)

    def test_tree_rows(self):
        for seed in range(30):
            source = random_source('trees', seed)
            rowset = random_rowset(seed, 12, 2, expiry=5)
            tree = random_tree(source, rowset, 1 + seed % 6)
            expected = union_rowsets(tuple(leaves_of(tree)))
            self.assertIs(is_merge_tree(tree), True)
            self.assertEqual(check_steady(self, tree_rows, tree), expected)
        self.assertEqual(tree_rows(('merge', (('leaf', (C,)), ('merge', (('leaf', (A,)),))))), (A, C))
        self.assertEqual(tree_rows(('merge', (('leaf', ()),))), ())
        self.assertEqual(tree_rows(('merge', (('leaf', SIXTY[30:]), ('leaf', SIXTY[:31])))), SIXTY)
        for value, error in TREE_CASES:
            check_raises(self, error, tree_rows, value)


class KernelsTest(unittest.TestCase):
    def check_tree(self, tree, query, budget):
        kernel, count = plain_kernels(tree, query, budget)
        self.assertEqual(check_steady(self, root_kernel, tree, query, budget=budget), kernel)
        self.assertEqual(kernel, durable_kernel(tree_rows(tree), query, budget=budget))
        self.assertEqual(check_steady(self, transfer_count, tree, query, budget=budget), count)

    def test_every_query(self):
        for query in QUERIES:
            for rowset in expiring_rowsets(query, 8)[:2]:
                for budget in (0, 1, 4):
                    self.check_tree(random_tree(random_source(query, budget), rowset, 4), query, budget)

    def test_sixty_rows(self):
        for query in LARGE:
            rowset = random_rowset(6, 60, 2, high=9, expiry=30)
            tree = ('merge', tuple(('leaf', rowset[start:start + 20]) for start in range(0, 60, 15)))
            self.check_tree(tree, query, 10)

    def test_by_hand(self):
        # Leaves keep a and b, b and c, c; the inner node b and c; the root a and b.
        tree = ('merge', (('leaf', (A, B)), ('merge', (('leaf', (B, C)), ('leaf', (C,))))))
        for budget, kernel, count in ((0, (A,), 1 + 1 + 1 + 1 + 1), (1, (A,), 1 + 2 + 1 + 2 + 1),
                                      (2, (A, B), 2 + 2 + 1 + 2 + 2), (3, S, 2 + 2 + 1 + 2 + 3)):
            rows = tuple(row[:3] + (9,) for row in kernel)
            self.assertEqual(root_kernel(self.flat(tree), Q, budget=budget), rows)
            self.assertEqual(transfer_count(self.flat(tree), Q, budget=budget), count)
        self.assertEqual(transfer_count(LEAF, Q), 1)
        self.assertEqual(transfer_count(LEAF, Q, budget=9), 3)
        self.assertEqual(transfer_count(chain(6), Q, budget=9), 18)
        self.assertEqual(transfer_count(full(3, 4), Q, budget=9), 21 * 3)
        self.assertEqual(root_kernel(('leaf', ()), Q), ())
        self.assertEqual(transfer_count(('merge', (('leaf', ()), ('leaf', ()))), Q, budget=5), 0)

    def flat(self, tree):
        """Return a tree like this one whose rows all expire at time 9."""
        if tree[0] == 'leaf':
            return ('leaf', tuple(row[:3] + (9,) for row in tree[1]))
        return ('merge', tuple(self.flat(child) for child in tree[1]))

    def test_the_default(self):
        for query in QUERIES[::3]:
            tree = random_tree(random_source(query), expiring_rowsets(query, 6)[1], 4)
            for function in (root_kernel, transfer_count):
                self.assertEqual(function(tree, query), function(tree, query, budget=0))
                self.assertRaises(TypeError, function, tree, query, 0)

    def test_errors(self):
        tree = ('merge', (('leaf', R[:2]), ('leaf', R[1:])))
        for function in (root_kernel, transfer_count):
            check_errors(self, function, {0: tree, 1: Q, 'budget': 0}, [
                (0, TREE_CASES), (1, QUERY_CASES), ('budget', BUDGET_CASES)])
            # The width is that of the rows of all leaves, and 4 if there are none.
            empty = ('merge', (('leaf', ()), ('leaf', ())))
            self.assertEqual(function(empty, ('hull', 2, 3)), () if function == root_kernel else 0)
            check_raises(self, InvalidQuery, function, empty, ('hull', 2, 4), budget=-1)
            check_raises(self, InvalidQuery, function, ('merge', (('leaf', ()), LEAF)), Q2, budget=-1)


class DistinctionTest(unittest.TestCase):
    def plain_distinction(self, one, other, query, value, budget):
        """Return whether the pair of a time and a tuple of names is a distinction in the words of 13.3."""
        now, names = value
        if not 0 <= now <= 10 ** 9 or names != tuple(sorted(set(names))):
            return False
        rows = tuple(sorted(set(one + other)))
        if len(rows_of(rows, names)) < len(names) or cost_of(rows_of(rows, names)) > budget:
            return False
        return plain_names(live_at(without(one, names), now), query) != plain_names(
            live_at(without(other, names), now), query)

    def pairs(self, query, budget, count=5):
        """Yield some pairs of kernels in which rows with equal names are equal."""
        for rowset in expiring_rowsets(query, count)[:2]:
            kernels = [durable_kernel(part, query, budget=budget) for part in (
                rowset, rowset[1:], rowset[::2], rowset[:2] + rowset[3:], rowset[2:], ())]
            for one in kernels:
                for other in kernels:
                    yield one, other

    def test_every_pair_of_kernels(self):
        for query in QUERIES:
            for budget in (0, 3):
                for one, other in self.pairs(query, budget, 6):
                    found = check_steady(self, find_distinction, one, other, query, budget=budget)
                    self.assertIs(found is None, one == other)
                    self.assertIs(is_distinction(one, other, query, found, budget=budget), True)
                    self.assertIs(is_distinction(one, other, query, None, budget=budget), one == other)
                    if found is not None:
                        self.assertTrue(self.plain_distinction(one, other, query, found, budget))
                        self.assertIs(found.__class__, tuple)

    def test_every_time_and_names(self):
        for query in QUERIES[::2]:
            for one, other in list(self.pairs(query, 3, 4))[::3]:
                names = tuple(sorted({row[0] for row in one + other}))
                for now in times_of(one + other) + [-1, 10 ** 9 + 1]:
                    for chosen in subsets(names):
                        value = (now, chosen)
                        expected = one != other and self.plain_distinction(one, other, query, value, 3)
                        found = is_distinction(one, other, query, value, budget=3)
                        self.assertIs(found, expected, (one, other, query, value))

    def test_sixty_rows(self):
        for query in LARGE:
            rowset = random_rowset(6, 60, 2, high=9, cost=9, expiry=30)
            for budget in (0, 15):
                one = durable_kernel(rowset, query, budget=budget)
                for part in (rowset[:30], rowset[1::2], one[1:]):
                    other = durable_kernel(part, query, budget=budget)
                    for first, second in ((one, other), (other, one)):
                        value = find_distinction(first, second, query, budget=budget)
                        self.assertIs(value is None, one == other)
                        self.assertIs(is_distinction(first, second, query, value, budget=budget), True)
        # The two rowsets may have more than sixty rows together.
        many = different_rows(61)
        value = find_distinction(many[:60], many[1:], EACH)
        self.assertIs(is_distinction(many[:60], many[1:], EACH, value), True)
        self.assertIs(is_distinction(many[:60], many[1:], EACH, (0, ())), True)
        self.assertIs(is_distinction(many[:60], many[1:], EACH, (1, ())), False)

    def test_by_hand(self):
        one, other = (A,), (B,)
        for value, right in (
                ((8, ()), True), ((0, ()), True), ((9, ()), False), ((10 ** 9, ()), False), ((10 ** 9 + 1, ()), False),
                ((-1, ()), False), ((0, ('a',)), True), ((0, ('b',)), True), ((4, ('a',)), True), ((5, ('a',)), False),
                ((8, ('b',)), True), ((0, ('a', 'b')), False), ((0, ('c',)), False), ((0, ('a', 'a')), False),
                ((0, ('b', 'a')), False), ((0, ['a']), False), ([0, ()], False), ((0,), False), ((0, (), ()), False),
                ((True, ()), False), ((False, ()), False), ((None, ()), False), (('0', ()), False), ((0, None), False),
                ((0, 'a'), False), ((0, ('a', None)), False), ((0, (('a',),)), False), (None, False), ((), False),
                ((), False), ({0: ()}, False)):
            self.assertIs(check_steady(self, is_distinction, one, other, Q, value, budget=2), right, value)
            self.assertIs(is_distinction(other, one, Q, value, budget=2), right, value)
        # The cost of the names counts each row once, and may be the whole budget.
        for budget, right in ((0, False), (1, False), (2, True), (3, True), (10 ** 9, True)):
            self.assertIs(is_distinction(one, other, Q, (0, ('a',)), budget=budget), right)
        row = ('d', 1, (1,), 9)
        self.assertIs(is_distinction((A, B), (A,), Q, (0, ('a',)), budget=2), True)
        self.assertIs(is_distinction((A, row), (A, B, row), Q, (4, ('a', 'd')), budget=3), True)
        self.assertIs(is_distinction((A, row), (A, B, row), Q, (5, ('a', 'd')), budget=3), False)
        check_raises(self, InvalidRowset, is_distinction, (A, row), (A, B, row), Q, (4, ('a', 'd')), budget=2)

    def test_equal_rowsets(self):
        for value in ODD_VALUES + ((0, ()), (8, ('a',)), [None], (None,)):
            for rowset in (S, ()):
                self.assertIs(is_distinction(rowset, rowset, Q, value, budget=9), value is None)
        self.assertIsNone(find_distinction((), (), Q))
        self.assertIsNone(find_distinction((A,), (A,), Q, budget=0))

    def test_any_value(self):
        for value in ODD_VALUES:
            for whole in (value, (value, ()), (0, value), (0, (value,)), (0, ('a', value)), (0, (), value)):
                right = whole in ((0, ()), (1, ())) and not isinstance(whole[0], bool)
                self.assertIs(is_distinction((A,), (B,), Q, whole, budget=9), right, whole)
        for value in replaced((8, ('b',))):
            check_bool(self, is_distinction((A,), (B,), Q, value, budget=9))
        for value in (made(), (made(), ()), (0, made()), (0, (made(),))):
            self.assertIs(is_distinction((A,), (B,), Q, value), False)

    def test_the_default(self):
        for query in QUERIES[::3]:
            for one, other in list(self.pairs(query, 0))[::5]:
                self.assertEqual(find_distinction(one, other, query), find_distinction(one, other, query, budget=0))
                for value in ((0, ()), (0, ('aa',)), (0, ('ab',))):
                    self.assertIs(
                        is_distinction(one, other, query, value), is_distinction(one, other, query, value, budget=0))
        # Each rowset is its own kernel for the budget 1, but one of them not for the budget 0.
        pair = (('a', 1, (1,), 9), ('b', 1, (2,), 9))
        for given in (((), pair), (pair, pair[:1])):
            self.assertIs(is_distinction(*given, Q, find_distinction(*given, Q, budget=1), budget=1), True)
            check_raises(self, InvalidRowset, find_distinction, *given, Q)
            check_raises(self, InvalidRowset, is_distinction, *given, Q, None)
        self.assertRaises(TypeError, find_distinction, S, S, Q, 6)
        self.assertRaises(TypeError, is_distinction, S, S, Q, None, 6)

    def test_errors(self):
        one = (('ann', 5, (3, 0), 9), ('bob', 1, (1, 2), 9))
        other = (('ann', 5, (3, 0), 9), ('cat', 2, (2, 1), 9))
        wide = (('dan', 2, (2, 1, 1), 9),)
        later = cases((S, wide), InvalidRowset)
        checked = [(0, ROWSET_CASES), (1, ROWSET_CASES), (1, later), (2, QUERY_CASES), ('budget', BUDGET_CASES)]
        check_errors(self, find_distinction, {0: one, 1: other, 2: Q, 'budget': 5}, checked)
        for value in (None, (0, ()), 7):
            check_errors(
                self, lambda *given, budget: is_distinction(*given, value, budget=budget),
                {0: one, 1: other, 2: Q, 'budget': 5}, checked)

    def test_the_order_of_errors(self):
        for call in (find_distinction, lambda *given, budget: is_distinction(*given, (0, ()), budget=budget)):
            check_raises(self, InvalidRowset, call, R, S, ('group', 9, Q), budget=-1)
            # The empty rowset has every width; both together have the width 4.
            check_raises(self, InvalidQuery, call, (), S, Q2, budget=-1)
            check_raises(self, InvalidQuery, call, S, (), Q2, budget=-1)
            check_raises(self, InvalidQuery, call, (), (), ('hull', 0, 4), budget=-1)
            check_raises(self, (InvalidNumber, 'value', -1), call, (), (), ('hull', 0, 3), budget=-1)
            changed = (('b', 1, (2,), 6), ('c', 3, (3,), 8))
            check_raises(self, (InvalidNumber, 'value', -1), call, S, changed, Q, budget=-1)
            check_raises(self, (NameConflict, 'name', 'b'), call, S, changed, Q, budget=0)
            check_raises(self, (NameConflict, 'name', 'c'), call, changed[1:], S, Q, budget=9)
            check_raises(self, InvalidRowset, call, S, (A,), Q, budget=1)
            check_raises(self, InvalidRowset, call, (A,), S, Q, budget=1)
            check_raises(self, InvalidRowset, call, S, S, Q, budget=0)
            check_raises(self, InvalidRowset, call, S, (), Q, budget=1)
        many = different_rows(61)
        changed = (('ba', 2, (1,), 1),) + many[27:]
        check_raises(self, (NameConflict, 'name', 'ba'), find_distinction, many[:60], changed, EACH)


if __name__ == '__main__':
    unittest.main()
