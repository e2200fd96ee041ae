"""Tests of spareskept.tables.orderings: 7.3."""

import unittest
from itertools import permutations

from spareskept.errors import InvalidTable
from spareskept.tables.orderings import are_orderings, find_orderings, table_from_orderings
from spareskept.tables.tables import find_violation, selectable_names
from tests.test_tables import BOTH, NONE, SECOND, SIX, TABLE_CASES
from tests.test_tables import all_tables, everything, ordered, random_tables, violations
from tests.values import ODD_VALUES, T
from tests.values import cases, check_bool, check_errors, check_steady, random_source, replaced, subsets

NOTHING = (('a', 'b'), ((), (), ()))
NOT_NAMES = (
    None, 1, True, 'ab', (), [], ['a', 'b'], {}, ('b', 'a'), ('a', 'a'), ('a', 'B'), ('a', 1), ('a', ''),
    ('a', 'b', None),
    tuple('abcdefg'), (('a', 'b'),), ('a', 'abcdefghi'),
)
NOT_SELECTABLE = (
    None, 1, True, 'ab', 'a', [], ['a', 'b'], {}, ('b', 'a'), ('a', 'a'), ('a', 'b', 'b'), ('a', 'x'), ('a', 1),
    ('a', None),
    (('a', 'b'),), (['a'],),
)
NOT_ORDERINGS = (
    None, 1, True, 'ab', (), [], [('b', 'a')], {}, {('b', 'a'): 1}, ((),), (('a',),), (('b', 'a'), ('a',)), ('b', 'a'),
    (('b', 'a'), ('b', 'a')), (('a', 'b'), ('b', 'a'), ('a', 'b')), (('a', 'b', 'a'),), (('a', 'a'),),
    (('a', 'b', 'c'),),
    (('a', 'c'),), (['b', 'a'],), (('b', 'a'), ['a', 'b']), ('ba',), (('a', None),), (('a', ['b']),),
    (('b', 'a'), None),
    (('b', 'a'), ()), (1, 2), ((1, 2),),
)


class FindOrderingsTest(unittest.TestCase):
    def check_table(self, table):
        found = check_steady(self, find_orderings, table)
        self.assertEqual(found is None, bool(violations(table)), table)
        if found is not None:
            selectable = selectable_names(table)
            self.assertIs(check_steady(self, are_orderings, table, found), True)
            self.assertEqual(ordered(table[0], found), table)
            self.assertEqual(table_from_orderings(table[0], selectable, found), table)
            self.assertEqual(len(set(found)), len(found))
            for ordering in found:
                self.assertEqual(sorted(ordering), sorted(selectable))

    def test_all_small_tables(self):
        for names in (('a',), ('a', 'b')):
            for table in all_tables(names):
                self.check_table(table)
        independent = [table for table in all_tables(('a', 'b', 'c')) if find_violation(table) is None]
        for table in independent + all_tables(('a', 'b', 'c'))[::37]:
            self.check_table(table)

    def test_larger_tables(self):
        for count in (4, 5, 6):
            for seed in range(12):
                for table in random_tables(seed, SIX[:count]):
                    self.check_table(table)
        self.check_table(everything(SIX))
        self.check_table(ordered(SIX, [SIX[::-1]]))

    def test_nothing_selectable(self):
        for names in (('a',), ('a', 'b'), SIX):
            table = (names, ((),) * (2 ** len(names) - 1))
            self.assertEqual(find_orderings(table), ())
            self.assertIs(are_orderings(table, ()), True)
            self.assertIs(are_orderings(table, ((),)), False)
        # Nothing is selectable, and yet something is selected from a larger set.
        self.assertIsNone(find_orderings((('a', 'b'), ((), (), ('a',)))))
        self.assertIs(are_orderings((('a', 'b'), ((), (), ('a',))), ()), False)

    def test_errors(self):
        check_errors(self, find_orderings, {0: T}, TABLE_CASES)


class AreOrderingsTest(unittest.TestCase):
    def test_all_sets_of_orderings(self):
        names = ('a', 'b', 'c')
        for table in (NONE, everything(names), ordered(names, ['cab', 'bac']), ordered(names, ['ac', 'ca']),
                      ordered(names, ['b']), ordered(names, ['abc', 'acb']), all_tables(names)[777]):
            selectable = selectable_names(table)
            for chosen in subsets(tuple(permutations(selectable))):
                expected = ordered(names, chosen) == table
                self.assertIs(are_orderings(table, chosen), expected, (table, chosen))
                self.assertIs(are_orderings(table, chosen[::-1]), expected, (table, chosen))

    def test_orderings_that_others_made(self):
        for seed in range(12):
            table, changed = random_tables(seed, SIX)
            found = find_orderings(table)
            source = random_source(seed, 0)
            some = tuple(source.sample(found, min(len(found), 4)))
            self.assertIs(are_orderings(table, some), ordered(SIX, some) == table)
            self.assertIs(are_orderings(table, tuple(source.sample(found, len(found)))), True)
            if changed != table:
                self.assertIs(are_orderings(changed, found), selectable_names(changed) == () == found)

    def test_wrong_orderings(self):
        names = ('a', 'b', 'c')
        table = ordered(names, ['cab', 'bac'])
        good = (('c', 'a', 'b'), ('b', 'a', 'c'))
        self.assertIs(are_orderings(table, good), True)
        self.assertIs(are_orderings(table, good[::-1]), True)
        self.assertIs(are_orderings(table, good + (('c', 'b', 'a'),)), True)
        self.assertIs(are_orderings(table, good + (('a', 'b', 'c'),)), False)
        for value in (good[:1], good[1:], good + good[:1], (), (('c', 'a'), ('b', 'a')),
                      (('c', 'a', 'b', 'c'), good[1]),
                      (('c', 'a', 'a'), good[1]), (('c', 'a', 'x'), good[1]), (good[0], ('b', 'c', 'a')), list(good),
                      (list(good[0]), good[1]), ('cab', 'bac'), (good, ), (good[0], None), good + ((),), good[0],
                      (('c', 'a', None), good[1]), (('c', ['a'], 'b'), good[1]), {good[0]: 1, good[1]: 1}):
            self.assertIs(check_steady(self, are_orderings, table, value), False, value)

    def test_tables_with_a_violation(self):
        for table in (BOTH, SECOND):
            selectable = selectable_names(table)
            for chosen in subsets(tuple(permutations(selectable))):
                self.assertIs(are_orderings(table, chosen), False)

    def test_any_value(self):
        for value in ODD_VALUES:
            self.assertIs(are_orderings(T, value), False, value)
            self.assertIs(are_orderings(NOTHING, value), value == (), value)
        for value in replaced((('b', 'a'),)):
            check_bool(self, are_orderings(T, value))

    def test_errors(self):
        for value in (None, (('b', 'a'),), [1]):
            check_errors(self, are_orderings, {0: T, 1: value}, TABLE_CASES)


class TableFromOrderingsTest(unittest.TestCase):
    def test_tables(self):
        for count in range(1, 7):
            names = SIX[:count]
            for selectable in subsets(names)[1::3]:
                source = random_source(count, len(selectable))
                some = {tuple(source.sample(selectable, len(selectable))) for _ in range(3)}
                for orderings in (tuple(some), tuple(some)[::-1]):
                    found = check_steady(self, table_from_orderings, names, selectable, orderings)
                    self.assertEqual(found, ordered(names, orderings))
                    self.assertEqual(selectable_names(found), selectable)
                    self.assertIsNone(find_violation(found))

    def test_nothing_selectable(self):
        self.assertEqual(table_from_orderings(('a', 'b'), (), ()), NOTHING)
        self.assertEqual(table_from_orderings(SIX, (), ()), (SIX, ((),) * 63))

    def test_errors(self):
        good = {0: ('a', 'b'), 1: ('a', 'b'), 2: (('b', 'a'),)}
        check_errors(self, table_from_orderings, good, [
            (0, cases(NOT_NAMES, InvalidTable)), (1, cases(NOT_SELECTABLE, InvalidTable)),
            (2, cases(NOT_ORDERINGS, InvalidTable))])
        for value in (((),), (('a',),), (('a', 'b'),), None, [], ((), ())):
            check_errors(self, table_from_orderings, {0: ('a', 'b'), 1: (), 2: ()}, [(2, cases([value], InvalidTable))])
        for value in ((), ((),), (('a', 'b'),), (('b',),), (('a',), ('a',))):
            check_errors(self, table_from_orderings, {0: ('a', 'b'), 1: ('a',), 2: (('a',),)}, [
                (2, cases([value], InvalidTable))])


if __name__ == '__main__':
    unittest.main()
