"""Tests of spareskept.tables.tables: 7.1, 7.2 and the selectable names of 7.3."""

import unittest
from itertools import permutations, product

from spareskept.errors import InvalidTable, UnknownName
from spareskept.tables.tables import MAX_NAMES, find_violation, is_table, is_violation, selectable_names, table_choice
from tests.values import ODD_VALUES, T
from tests.values import cases, check_bool, check_errors, check_raises, check_steady, holding, random_source, replaced
from tests.values import subsets

SIX = ('a', 'ab', 'b', 'c', 'cc', 'zzzzzzzz')
SEVEN = ('a', 'aa') + SIX[1:]

# These break both rules of 7.2 at once, the first alone, the second alone (two tables), and none.
BOTH = (('a', 'b'), (('a',), (), ('b',)))
FIRST_ALONE = (('a', 'b', 'c'), (('a',), ('b',), ('a',), ('c',), ('a',), ('b',), ('a', 'b', 'c')))
SECOND = (('a', 'b'), (('a',), ('b',), ()))
SECOND_ALONE = (('a', 'b', 'c'), (('a',), ('b',), ('a', 'b'), ('c',), ('a', 'c'), ('b', 'c'), ('a',)))
NONE = (('a', 'b', 'c'), (('a',), ('b',), ('a',), ('c',), ('a', 'c'), ('b', 'c'), ('a', 'c')))


def set_of(names, number):
    """Return the set with this number in the words of 7.1."""
    return tuple(name for index, name in enumerate(names) if (number // 2 ** index) % 2)


def table_of(names, choose):
    """Return the table of a function that returns some of the names of a set."""
    return (names, tuple(tuple(sorted(choose(set_of(names, number)))) for number in range(1, 2 ** len(names))))


def everything(names):
    return table_of(names, lambda chosen: chosen)


def ordered(names, orderings):
    """Return the table with these orderings in the words of 7.3."""
    def choose(chosen):
        members = [[name for name in ordering if name in chosen] for ordering in orderings]
        return {names[0] for names in members if names}
    return table_of(names, choose)


def all_tables(names):
    """Return every table with these names."""
    sets = [set_of(names, number) for number in range(1, 2 ** len(names))]
    return [(names, choices) for choices in product(*[subsets(chosen) for chosen in sets])]


def random_tables(seed, names):
    """Return a table of a few random orderings and the same with one choice replaced."""
    source = random_source(seed, len(names))
    selectable = [name for name in names if source.random() < 0.9]
    orderings = [source.sample(selectable, len(selectable)) for _ in range(source.randint(1, 3))]
    table = ordered(names, orderings)
    number = source.randrange(len(table[1]))
    choice = source.choice(subsets(set_of(names, number + 1)))
    return table, (names, table[1][:number] + (choice,) + table[1][number + 1:])


def rules_broken(table, larger, smaller):
    """Return whether the two sets break the first rule of 7.2, and whether they break the second."""
    selected = {set_of(table[0], number): set(choice) for number, choice in enumerate(table[1], 1)}
    selected[()] = set()
    first = any(name in smaller and name not in selected[smaller] for name in selected[larger])
    second = selected[larger] <= set(smaller) and selected[larger] != selected[smaller]
    return first, second


def violations(table):
    """Return every violation of the table in the words of 7.2."""
    return [(larger, smaller) for larger in subsets(table[0]) for smaller in subsets(larger)
            if any(rules_broken(table, larger, smaller))]


NOT_TABLES = (
    None, 1, True, 'a', (), [], {}, list(T), T[:1], T + (1,), (T[1], T[0]), (list(T[0]), T[1]), (T[0], list(T[1])),
    ((), ()), (SEVEN, ((),) * 127), (('b', 'a'), T[1]), (('a', 'a'), T[1]), (('a', 'B'), T[1]),
    (('a', 1), T[1]), (('a',), T[1]), (('a', 'b', 'c'), T[1]), (('a', 'b'), ()), (('a', 'b'), T[1][:2]),
    (('a', 'b'), T[1] + ((),)), (('a', 'b'), (('b',), ('b',), ('b',))), (('a', 'b'), (('a',), ('b',), ('c',))),
    (('a', 'b'), (('a',), ('b',), ('b', 'a'))), (('a', 'b'), (('a',), ('b',), ('a', 'a'))),
    (('a', 'b'), (('a',), ('b',), ['b'])), (('a', 'b'), (('a',), ('b',), 'b')), (('a', 'b'), (('a',), ('b',), None)),
    (('a', 'b'), (('a',), ('b',), (None,))), (('a', 'b'), (('a',), ('b',), (['b'],))), ('ab', T[1]),
)
TABLE_CASES = [(0, cases(NOT_TABLES, InvalidTable))]


class IsTableTest(unittest.TestCase):
    def test_numbers_of_names(self):
        self.assertEqual(MAX_NAMES, 6)
        for count in range(1, 7):
            self.assertIs(check_steady(self, is_table, everything(SIX[:count])), True)
            self.assertIs(is_table((SIX[:count], ((),) * (2 ** count - 1))), True)
        self.assertIs(is_table(everything(SEVEN)), False)
        for value in (((), ()), ((), ((),)), ((), ((), ()))):
            self.assertIs(is_table(value), False)

    def test_all_tables_with_two_names(self):
        names = ('x', 'y')
        entries = ((), ('x',), ('y',), ('x', 'y'), ('y', 'x'), ('x', 'x'), ('z',), ['x'], None, 'x', ('x', 'y', 'z'))
        valid = [set(subsets(set_of(names, number))) for number in (1, 2, 3)]
        for choices in product(entries, repeat=3):
            expected = all(isinstance(choice, tuple) and choice in parts for choice, parts in zip(choices, valid))
            self.assertIs(is_table((names, choices)), expected, choices)

    def test_numbers_of_choices(self):
        for count in range(1, 7):
            choices = everything(SIX[:count])[1]
            for wrong in (choices[:-1], choices[1:], choices + ((),), (), choices * 2):
                self.assertIs(is_table((SIX[:count], wrong)), False)

    def test_choices(self):
        names, choices = everything(SIX)
        for number, choice in enumerate(choices):
            outside = tuple(name for name in names if name not in choice)
            wrong = [choice[::-1]] if len(choice) > 1 else []
            wrong += [tuple(sorted(choice + (name,))) for name in outside[:1]]
            wrong += [choice + choice[-1:], choice[:1] + choice, list(choice), choice + (None,), choice + ('zoe',)]
            for value in wrong:
                self.assertIs(is_table((names, choices[:number] + (value,) + choices[number + 1:])), False, value)

    def test_names(self):
        for name in ('', 'A', 'ab ', 'abcdefghi', 'a1', None, 1, True, ('a',), ['a'], b'a'):
            self.assertIs(is_table(((name,), ((),))), False, name)
            self.assertIs(is_table((('a', name), ((), (), ()))), False, name)

    def test_not_tables(self):
        self.assertIs(is_table(T), True)
        for value in NOT_TABLES + ODD_VALUES:
            self.assertIs(is_table(value), False, value)
        for value in replaced(T):
            check_bool(self, is_table(value))


class TableChoiceTest(unittest.TestCase):
    def test_every_set(self):
        for count in range(1, 7):
            for table in random_tables(3, SIX[:count]):
                for number, choice in enumerate(table[1], 1):
                    names = set_of(table[0], number)
                    self.assertEqual(check_steady(self, table_choice, table, names), choice)
                    self.assertEqual(table_choice(table, names[::-1]), choice)
                    self.assertEqual(table_choice(table, names + names[:2] + names[:1]), choice)
                self.assertEqual(table_choice(table, ()), ())

    def test_names_in_any_order(self):
        table = random_tables(5, SIX)[1]
        for names in permutations(('b', 'zzzzzzzz', 'a', 'ab')):
            self.assertEqual(table_choice(table, names), table_choice(table, ('a', 'ab', 'b', 'zzzzzzzz')))

    def test_errors(self):
        not_tuples = holding((None, 1, True, 'a', 'ab', [], ['a'], {}, {'a': 1}), UnknownName, 'name')
        unknown = holding(('c', '', 'A', None, 1, True, (), ('a',), ['a'], {'a': 1}), UnknownName, 'name')
        elements = [(('b', name), error) for name, error in unknown]
        check_errors(self, table_choice, {0: T, 1: ('b', 'a')}, TABLE_CASES + [(1, not_tuples + elements)])
        check_raises(self, (UnknownName, 'name', 'x'), table_choice, T, ('a', 'x', 'y', 'b'))
        check_raises(self, InvalidTable, table_choice, (('b', 'a'), T[1]), ('x',))


class ViolationTest(unittest.TestCase):
    def check_table(self, table):
        """Check the violation that is found; return whether there is one."""
        found = check_steady(self, find_violation, table)
        expected = violations(table)
        if found is None:
            self.assertEqual(expected, [], table)
        else:
            self.assertIn(found, expected)
            self.assertIs(check_steady(self, is_violation, table, found), True)
        return found is not None

    def check_pairs(self, table):
        """Check is_violation with every pair of sets."""
        expected = violations(table)
        for pair in product(subsets(table[0]), repeat=2):
            self.assertIs(is_violation(table, pair), pair in expected, (table, pair))

    def test_all_small_tables(self):
        for names in (('a',), ('a', 'b')):
            for table in all_tables(names):
                self.check_table(table)
                self.check_pairs(table)
        tables = all_tables(('a', 'b', 'c'))
        self.assertEqual(len(tables), 2 ** 3 * 4 ** 3 * 8)
        for table in tables[::3]:
            self.check_table(table)
        for table in tables[::101]:
            self.check_pairs(table)

    def test_larger_tables(self):
        for count in (4, 5, 6):
            for seed in range(8):
                table, changed = random_tables(seed, SIX[:count])
                self.assertIs(self.check_table(table), False)
                self.check_table(changed)
        self.check_pairs(random_tables(0, SIX[:4])[1])

    def test_rules(self):
        for table, expected in ((BOTH, [(True, True)]), (FIRST_ALONE, [(True, False)]), (SECOND, [(False, True)]),
                                (SECOND_ALONE, [(False, True)]), (NONE, []), (T, [])):
            found = {rules_broken(table, larger, smaller) for larger, smaller in violations(table)}
            self.assertEqual(sorted(found), expected, table)
            self.assertIs(self.check_table(table), bool(expected))
            self.check_pairs(table)

    def test_the_empty_set_as_the_smaller_one(self):
        # What is selected from a set never belongs to the empty set, and nothing selected is right for it.
        for table in (T, BOTH, SECOND, everything(SIX[:3])):
            for number in range(2 ** len(table[0])):
                self.assertIs(is_violation(table, (set_of(table[0], number), ())), False)
        self.assertIs(is_violation((('a',), ((),)), (('a',), ())), False)

    def test_not_violations(self):
        self.assertIs(is_violation(BOTH, (('a', 'b'), ('b',))), True)
        for value in ((('b',), ('a', 'b')), [('a', 'b'), ('b',)], (['a', 'b'], ('b',)), (('a', 'b'), ['b']),
                      (('b', 'a'), ('b',)), (('a', 'b'), ('b', 'b')), (('a', 'a', 'b'), ('b',)), (('a', 'b'), 'b'),
                      (('a', 'b', 'c'), ('b',)), (('a', 'b'), ('c',)), (('a', 'b'), (None,)), (('a', 'b'), (['b'],)),
                      (('a', 'b'),), (('a', 'b'), ('b',), ('b',)), (('b',), ('b',)), ('ab', 'b'), (None, None),
                      {('a', 'b'): 1, ('b',): 1}, ((1, 2), (2,)), (('a', 'b', None), ('b',))):
            self.assertIs(check_steady(self, is_violation, BOTH, value), False, value)
        self.assertIs(is_violation(SECOND, (('a', 'b'), ('b', 'a'))), False)
        self.assertIs(is_violation(SECOND, (('a', 'b'), ('a',))), True)
        self.assertIs(is_violation(SECOND, (('a',), ('b',))), False)

    def test_any_value(self):
        for value in ODD_VALUES:
            self.assertIs(is_violation(BOTH, value), False, value)
        for value in replaced((('a', 'b'), ('b',))):
            check_bool(self, is_violation(BOTH, value))

    def test_errors(self):
        check_errors(self, find_violation, {0: T}, TABLE_CASES)
        for value in (None, (('a', 'b'), ('b',)), [1]):
            check_errors(self, is_violation, {0: T, 1: value}, TABLE_CASES)


class SelectableTest(unittest.TestCase):
    def test_selectable_names(self):
        names = ('a', 'b', 'c')
        for table in all_tables(names)[::61]:
            expected = tuple(name for name, index in zip(names, (0, 1, 3)) if table[1][index])
            self.assertEqual(check_steady(self, selectable_names, table), expected)
        self.assertEqual(selectable_names(everything(SIX)), SIX)
        self.assertEqual(selectable_names((SIX, ((),) * 63)), ())
        self.assertEqual(selectable_names(BOTH), ('a',))

    def test_errors(self):
        check_errors(self, selectable_names, {0: T}, TABLE_CASES)


if __name__ == '__main__':
    unittest.main()
