"""Tests of spareskept.deletions.exclusion: 11.1."""

import itertools
import unittest

from spareskept.deletions.exclusion import exclusion_set
from spareskept.errors import InvalidQuery, InvalidRowset, UnknownName
from spareskept.queries.select import selected_names
from tests.queries import LARGE, QUERIES, plain_selections, small_rowsets
from tests.test_select import DELETED_CASES, NOT_DELETED, NOT_ELEMENTS, QUERY_CASES
from tests.values import NOT_ROWSETS, Q, R, S
from tests.values import cases, check_errors, check_raises, check_steady, random_rowset, random_source, subsets


def plain_exclusion(selections, rowset, names):
    """Return the least set whose deletion leaves none of the names selected, or None if there is no least one."""
    sets = [
        {row[0] for row in rowset if row not in kept}
        for kept, chosen in selections.items() if not set(chosen) & set(names)]
    least = set.intersection(*sets)
    return tuple(sorted(least)) if least in sets else None


class ExclusionTest(unittest.TestCase):
    def test_every_set_of_names_against_every_deletion(self):
        for query in QUERIES:
            for rowset in small_rowsets(query, 5):
                selections = plain_selections(rowset, query)
                for chosen in subsets(rowset):
                    names = tuple(row[0] for row in chosen)
                    found = check_steady(self, exclusion_set, rowset, query, names)
                    self.assertEqual(found, plain_exclusion(selections, rowset, names), (rowset, query, names))
                    self.assertTrue(set(found) <= set(names))
                    self.assertEqual(found, tuple(sorted(set(found))))

    def test_names_in_any_order_and_repeated(self):
        for query in QUERIES[::3]:
            rowset = small_rowsets(query, 5)[1]
            for names in (('aa', 'ac', 'ad'), ('ab', 'ae')):
                expected = exclusion_set(rowset, query, names)
                for order in itertools.permutations(names):
                    self.assertEqual(exclusion_set(rowset, query, order), expected)
                    self.assertEqual(exclusion_set(rowset, query, order + order[::-1]), expected)

    def test_none_and_all(self):
        for query in QUERIES:
            rowset = small_rowsets(query, 7)[1]
            self.assertEqual(exclusion_set(rowset, query, ()), ())
            whole = exclusion_set(rowset, query, tuple(row[0] for row in rowset))
            # Only rows that no query ever selects remain.
            self.assertEqual(whole, tuple(row[0] for row in rowset if selected_names((row,), query)))
            self.assertEqual(exclusion_set((), query, ()), ())

    def test_by_hand(self):
        for names, expected in (
                ((), ()), (('a',), ('a',)), (('b',), ()), (('c',), ()), (('b', 'c'), ()), (('b', 'a'), ('a', 'b')),
                (('a', 'c'), ('a',)), (('c', 'b', 'a'), ('a', 'b', 'c')), (('a',) * 100, ('a',))):
            self.assertEqual(exclusion_set(S, Q, names), expected)

    def test_sixty_rows(self):
        for query in LARGE:
            rowset = random_rowset(7, 60, 2, high=9)
            names = tuple(row[0] for row in random_source('exclusion').sample(rowset, 40))
            found = exclusion_set(rowset, query, names)
            self.assertFalse(set(selected_names(rowset, query, deleted=found)) & set(names))
            self.assertTrue(set(found) <= set(names))
            # Without one of its names the set does not suffice, so no smaller set does.
            for name in found:
                fewer = tuple(other for other in found if other != name)
                self.assertIn(name, selected_names(rowset, query, deleted=fewer))

    def test_errors(self):
        self.assertEqual(len(DELETED_CASES), len(NOT_DELETED) + len(NOT_ELEMENTS))
        check_errors(self, exclusion_set, {0: R, 1: Q, 2: ('ann',)}, [
            (0, cases(NOT_ROWSETS, InvalidRowset)), (1, QUERY_CASES), (2, DELETED_CASES)])
        check_raises(self, (UnknownName, 'name', 'ann'), exclusion_set, (), Q, ('ann',))
        check_raises(self, (UnknownName, 'name', 'y'), exclusion_set, R, Q, ('cat', 'y', 'x', 'y'))
        check_raises(self, InvalidQuery, exclusion_set, (), ('hull', 0, 4), None)


if __name__ == '__main__':
    unittest.main()
