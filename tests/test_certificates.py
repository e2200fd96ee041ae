"""Tests of spareskept.certificates.certificates: 10.1."""

import unittest

from spareskept.certificates.barriers import find_barrier, is_barrier
from spareskept.certificates.certificates import depth_certificate, is_depth_certificate
from spareskept.depths.depths import is_exposure, row_depth
from spareskept.errors import InvalidQuery
from tests.queries import LARGE, NOBODY, QUERIES, plain_depths, plain_selections, small_rowsets
from tests.test_barriers import BARRIER_CASES, FOREST, plain_barrier
from tests.test_cuts import BRIDGE
from tests.test_depths import TARGET_CASES, rows_of
from tests.values import ODD_VALUES, Q, R, S
from tests.values import check_bool, check_errors, check_raises, check_steady, cost_of, random_rowset, replaced, subsets

BUDGETS = (0, 1, 3, 7, 10 ** 9)


class DepthCertificateTest(unittest.TestCase):
    def check_row(self, rowset, query, row, budget, depth):
        kind, content = found = check_steady(self, depth_certificate, rowset, query, row[0], budget=budget)
        self.assertEqual(kind, 'hidden' if depth is None or depth > budget else 'exposed')
        if kind == 'exposed':
            self.assertIs(is_exposure(rowset, query, row[0], content), True)
            self.assertLessEqual(cost_of(rows_of(rowset, content)), budget)
            self.assertIsNone(find_barrier(rowset, query, row[0], budget=budget))
        else:
            self.assertIs(is_barrier(rowset, query, row[0], content, budget=budget), True)
        self.assertIs(check_steady(self, is_depth_certificate, rowset, query, row[0], found, budget=budget), True)

    def test_every_query(self):
        for query in QUERIES:
            for rowset in small_rowsets(query, 6)[:2]:
                depths = plain_depths(rowset, query)
                for row in rowset:
                    for budget in BUDGETS:
                        self.check_row(rowset, query, row, budget, depths[row[0]])

    def test_budgets_at_the_depth(self):
        for query in QUERIES[::2]:
            rowset = small_rowsets(query, 7)[2]
            depths = plain_depths(rowset, query)
            for row in rowset:
                depth = depths[row[0]]
                if depth is not None:
                    for budget in range(max(0, depth - 1), depth + 2):
                        self.check_row(rowset, query, row, budget, depth)

    def test_sixty_rows(self):
        for query in LARGE:
            rowset = random_rowset(5, 60, 2, high=8, cost=40)
            for row in rowset[::5]:
                depth = row_depth(rowset, query, row[0])
                for budget in {0, 60, max(0, (depth or 0) - 1), depth or 0}:
                    self.check_row(rowset, query, row, budget, depth)

    def test_the_default(self):
        for query in QUERIES:
            rowset = small_rowsets(query, 5)[1]
            for row in rowset:
                found = depth_certificate(rowset, query, row[0], budget=0)
                self.assertEqual(depth_certificate(rowset, query, row[0]), found)
                self.assertIs(is_depth_certificate(rowset, query, row[0], found), True)
                larger = depth_certificate(rowset, query, row[0], budget=4)
                self.assertIs(
                    is_depth_certificate(rowset, query, row[0], larger),
                    is_depth_certificate(rowset, query, row[0], larger, budget=0))
        self.assertRaises(TypeError, depth_certificate, R, Q, 'ann', 1)
        self.assertRaises(TypeError, is_depth_certificate, R, Q, 'ann', (), 1)

    def test_errors(self):
        check_errors(self, depth_certificate, {0: R, 1: Q, 2: 'ann'}, TARGET_CASES)
        check_errors(self, depth_certificate, {0: R, 1: Q, 2: 'ann', 'budget': 0}, BARRIER_CASES)
        for value in (('exposed', ()), None, [1]):
            check_errors(self, is_depth_certificate, {0: R, 1: Q, 2: 'ann', 3: value, 'budget': 0}, BARRIER_CASES)
        check_raises(self, InvalidQuery, depth_certificate, (), ('group', 4, Q), 'ann', budget=-1)


class IsDepthCertificateTest(unittest.TestCase):
    def test_every_set_of_rows(self):
        for query in QUERIES:
            rowset = small_rowsets(query, 5)[1]
            selections = plain_selections(rowset, query)
            depths = plain_depths(rowset, query)
            for row in rowset:
                for chosen in subsets(rowset):
                    names = tuple(other[0] for other in chosen)
                    kept = tuple(other for other in rowset if other not in chosen)
                    for budget in (0, 4):
                        exposed = row[0] in selections[kept] and cost_of(chosen) <= budget
                        self.assertIs(is_depth_certificate(
                            rowset, query, row[0], ('exposed', names), budget=budget), exposed)
                        hidden = is_depth_certificate(rowset, query, row[0], ('hidden', ('rows', names)), budget=budget)
                        self.assertIs(hidden, is_barrier(rowset, query, row[0], ('rows', names), budget=budget))
                        if exposed:
                            self.assertTrue(depths[row[0]] <= budget)
                        if hidden:
                            self.assertTrue(depths[row[0]] > budget)
                            self.assertTrue(plain_barrier(rowset, query, row, ('rows', names), budget))

    def test_certificates_that_others_made(self):
        for name, value, least, greatest in (
                ('b', ('exposed', ('a',)), 2, 99), ('b', ('exposed', ('a', 'c')), 5, 99), ('a', ('exposed', ()), 0, 99),
                ('a', ('exposed', ('b', 'c')), 4, 99), ('b', ('hidden', ('rows', ('a',))), 0, 1),
                ('b', ('hidden', ('rows', ('a', 'c'))), 0, 1), ('c', ('hidden', ('rows', ('b',))), 0, 0),
                ('c', ('hidden', ('rows', ('a',))), 0, 1), ('c', ('hidden', ('rows', ('a', 'b'))), 0, 2)):
            for budget in range(8):
                self.assertIs(
                    is_depth_certificate(S, Q, name, value, budget=budget), least <= budget <= greatest, (name, value))
        flow = ('hidden', ('flow', ((1, ('d', 'e')), (2, ('a', 'b')), (1, ('d', 'e')))))
        for budget in range(7):
            self.assertIs(is_depth_certificate(BRIDGE, FOREST, 'g', flow, budget=budget), budget < 4)
        for budget in (0, 10 ** 9):
            self.assertIs(is_depth_certificate(S, ('table', NOBODY), 'a', ('hidden', ('never',)), budget=budget), True)
            self.assertIs(is_depth_certificate(S, Q, 'c', ('hidden', ('never',)), budget=budget), False)

    def test_values_one_step_wrong(self):
        self.assertIs(is_depth_certificate(S, Q, 'c', ('exposed', ('a', 'b')), budget=3), True)
        for value in (('exposed', ('b', 'a')), ('exposed', ('a',)), ('exposed', ('a', 'b', 'c')),
                      ('exposed', ('a', 'b', 'b')),
                      ('exposed', ('a', 'b', 'd')), ('exposed', ['a', 'b']), ['exposed', ('a', 'b')], ('exposed',),
                      ('exposed', ('a', 'b'), ()), ('hidden', ('a', 'b')), ('hidden', ('rows', ('a', 'b'))), ('a', 'b'),
                      ('Exposed', ('a', 'b')), ('exposed', None), ('exposed', 'ab'), ('exposed', ('a', None)),
                      ('exposed', ('a', ['b'])), ('exposed', ()), ('rows', ('a', 'b')), (None, ('a', 'b')),
                      ('exposed', 3),
                      (['exposed'], ('a', 'b')), {'exposed': ('a', 'b')}, None, (), 'exposed',
                      ('exposed', {'a': 1, 'b': 1})):
            self.assertIs(check_steady(self, is_depth_certificate, S, Q, 'c', value, budget=3), False, value)
        self.assertIs(is_depth_certificate(S, Q, 'c', ('hidden', ('rows', ('a', 'b'))), budget=2), True)
        for value in (('exposed', ('a', 'b')), ('hidden', ('rows', ('a',))), ('hidden', ('rows', ('a', 'b', 'c'))),
                      ('hidden', ['rows', ('a', 'b')]), ['hidden', ('rows', ('a', 'b'))], ('hidden',),
                      ('rows', ('a', 'b')),
                      ('hidden', ('rows', ('a', 'b')), ()), ('hidden', 'rows', ('a', 'b')),
                      ('hide', ('rows', ('a', 'b'))),
                      ('hidden', ('never',)), ('hidden', None), ('hidden', ()), ('exposed', ('rows', ('a', 'b')))):
            self.assertIs(is_depth_certificate(S, Q, 'c', value, budget=2), False, value)

    def test_any_value(self):
        for value in ODD_VALUES:
            for whole in (value, ('exposed', value), ('hidden', value), ('hidden', ('rows', value)), (value, ('a',)),
                          (value, ('rows', ('a',)))):
                self.assertIs(is_depth_certificate(S, Q, 'b', whole, budget=1), False, whole)
        for value in replaced(('hidden', ('rows', ('a', 'b')))) + replaced(('exposed', ('a', 'b'))):
            for budget in (2, 3):
                check_bool(self, is_depth_certificate(S, Q, 'c', value, budget=budget))


if __name__ == '__main__':
    unittest.main()
