"""Tests of spareskept.deletions.outcomes: 11.2 and 11.3."""

import unittest

from spareskept.deletions.exclusion import exclusion_set
from spareskept.deletions.outcomes import MAX_OUTCOMES, are_possible_outcomes, possible_outcomes, robust_names
from spareskept.errors import InvalidNumber, InvalidQuery, InvalidRowset, TooMany
from spareskept.queries.select import selected_names
from tests.queries import LARGE, QUERIES, TOPS, plain_selections, small_rowsets
from tests.test_select import QUERY_CASES
from tests.values import NOT_ROWSETS, ODD_VALUES, Q, R, S
from tests.values import cases, check_bool, check_errors, check_raises, check_steady, cost_of, holding, name_of
from tests.values import numbers_outside, random_rowset, replaced, subsets

# Each row is a group of its own, so each row that is not deleted is selected.
EACH = ('group', 0, Q)
BUDGET_CASES = holding(numbers_outside(0, 10 ** 9), InvalidNumber, 'value')


def plain_outcomes(rowset, query, budget):
    """Return the outcomes with their least deletion sets, found by trying every deletion."""
    sets = {}
    for kept, names in plain_selections(rowset, query).items():
        if cost_of(rowset) - cost_of(kept) <= budget:
            sets.setdefault(names, []).append({row[0] for row in rowset if row not in kept})
    results = []
    for names, deleted in sets.items():
        least = set.intersection(*deleted)
        assert least in deleted, (rowset, query, names)
        results.append((names, tuple(sorted(least))))
    return tuple(sorted(results))


def different_rows(count):
    """Return rows that cost 1 each, with different values."""
    return tuple((name_of(number), 1, (number,), 1) for number in range(count))


def outcomes_of_each(count):
    """Return the outcomes for so many different rows, all of which the budget can delete."""
    names = tuple(name_of(number) for number in range(count))
    return tuple(sorted(
        (chosen, tuple(name for name in names if name not in chosen)) for chosen in subsets(names)))


def chains(cost):
    """Return two groups of 19 rows that cost 38 together, of which the best is selected, and a row of this cost."""
    rows = [(name_of(number), 1, (number % 2, number), 1) for number in range(38)]
    return tuple(rows + [('zz', cost, (2, 0), 1)]), ('group', 0, ('top', ((1, 'asc'),), 1))


class PossibleOutcomesTest(unittest.TestCase):
    def check_outcomes(self, rowset, query, budget):
        found = check_steady(self, possible_outcomes, rowset, query, budget=budget)
        self.assertEqual(found, plain_outcomes(rowset, query, budget), (rowset, query, budget))
        self.assertIs(check_steady(self, are_possible_outcomes, rowset, query, found, budget=budget), True)
        names = tuple(row[0] for row in rowset)
        for outcome, deleted in found:
            others = tuple(name for name in names if name not in outcome)
            self.assertEqual(deleted, exclusion_set(rowset, query, others))
        return found

    def test_every_deletion(self):
        for query in QUERIES:
            for rowset in small_rowsets(query, 6)[:2]:
                for budget in {0, 1, 4, cost_of(rowset[:2]), cost_of(rowset[:2]) - 1, cost_of(rowset), 10 ** 9}:
                    self.check_outcomes(rowset, query, budget)

    def test_large_costs(self):
        for query in QUERIES[::2]:
            rowset = small_rowsets(query, 6)[2]
            for part in (rowset[:1], rowset[1:3], rowset[2:5], rowset):
                for budget in (cost_of(part) - 1, cost_of(part)):
                    self.check_outcomes(rowset, query, budget)

    def test_by_hand(self):
        all_outcomes = ((('a',), ()), (('b',), ('a',)), (('c',), ('a', 'b')), ((), ('a', 'b', 'c')))
        for budget, count in ((0, 1), (1, 1), (2, 2), (3, 3), (5, 3), (6, 4), (10 ** 9, 4)):
            self.assertEqual(possible_outcomes(S, Q, budget=budget), tuple(sorted(all_outcomes[:count])))
        self.assertEqual(possible_outcomes((), Q), (((), ()),))
        self.assertEqual(possible_outcomes((), Q, budget=10 ** 9), (((), ()),))

    def test_robust_rows_are_in_every_outcome(self):
        for query in QUERIES:
            for rowset in small_rowsets(query, 6):
                for budget in {0, 1, 2, 3} | {row[1] + step for row in rowset[:2] for step in (-1, 0, 1)}:
                    found = check_steady(self, robust_names, rowset, query, budget=budget)
                    outcomes = [set(outcome) for outcome, _ in plain_outcomes(rowset, query, budget)]
                    self.assertEqual(found, tuple(sorted(set.intersection(*outcomes))))

    def test_robust_names(self):
        rows = (('a', 2, (1,), 9), ('b', 4, (2,), 5), ('c', 3, (3,), 9), ('d', 9, (4,), 9))
        for budget, names in ((0, 'abc'), (1, 'abc'), (2, 'bc'), (3, 'b'), (4, ''), (5, ''), (10 ** 9, '')):
            self.assertEqual(robust_names(rows, ('top', (), 3), budget=budget), tuple(names))
        self.assertEqual(robust_names((), Q), ())

    def test_four_hundred_outcomes(self):
        self.assertEqual(MAX_OUTCOMES, 400)
        for cost, budget, count in ((37, 37, 400), (39, 38, 400), (10 ** 6, 38, 400), (38, 37, 399), (1, 18, 380)):
            rowset, query = chains(cost)
            found = possible_outcomes(rowset, query, budget=budget)
            self.assertEqual(len(found), count if cost > 1 else 19 * 20 // 2 + 18 * 19 // 2)
            self.assertEqual(found, tuple(sorted(set(found))))
            self.assertEqual(len({outcome for outcome, _ in found}), len(found))
            self.assertIs(are_possible_outcomes(rowset, query, found, budget=budget), True)
        for cost, budget in ((38, 38), (37, 38), (1, 10 ** 9)):
            rowset, query = chains(cost)
            check_raises(self, (TooMany, 'limit', 400), possible_outcomes, rowset, query, budget=budget)
        self.assertEqual(possible_outcomes(different_rows(8), EACH, budget=8), outcomes_of_each(8))
        check_raises(self, (TooMany, 'limit', 400), possible_outcomes, different_rows(9), EACH, budget=8)

    def test_sixty_rows(self):
        for query in LARGE:
            rowset = random_rowset(5, 60, 2, high=9, cost=30)
            for outcome, deleted in possible_outcomes(rowset, query, budget=6):
                self.assertEqual(selected_names(rowset, query, deleted=deleted), outcome)
                self.assertLessEqual(cost_of(row for row in rowset if row[0] in deleted), 6)
        self.assertEqual(len(possible_outcomes(different_rows(60), EACH, budget=1)), 61)
        check_raises(self, (TooMany, 'limit', 400), possible_outcomes, different_rows(60), EACH, budget=2)

    def test_the_default(self):
        for query in QUERIES:
            rowset = small_rowsets(query, 5)[1]
            self.assertEqual(possible_outcomes(rowset, query), possible_outcomes(rowset, query, budget=0))
            self.assertEqual(robust_names(rowset, query), robust_names(rowset, query, budget=0))
            for value in (possible_outcomes(rowset, query), possible_outcomes(rowset, query, budget=9)):
                self.assertIs(
                    are_possible_outcomes(rowset, query, value), are_possible_outcomes(rowset, query, value, budget=0))
        for function, arguments in ((possible_outcomes, (R, Q)), (robust_names, (R, Q)), (
                are_possible_outcomes, (R, Q, ()))):
            self.assertRaises(TypeError, function, *arguments, 1)

    def test_errors(self):
        checked = [(0, cases(NOT_ROWSETS, InvalidRowset)), (1, QUERY_CASES), ('budget', BUDGET_CASES)]
        for function in (possible_outcomes, robust_names):
            check_errors(self, function, {0: R, 1: Q}, checked)
            check_errors(self, function, {0: R, 1: Q, 'budget': 0}, checked)
            check_raises(self, InvalidQuery, function, (), ('hull', 0, 4), budget=-1)
        for value in ((), None, [1], (((), ()),)):
            check_errors(self, are_possible_outcomes, {0: R, 1: Q, 2: value, 'budget': 0}, checked)
        many = different_rows(60)
        check_raises(self, (InvalidNumber, 'value', -1), possible_outcomes, many, EACH, budget=-1)


class ArePossibleOutcomesTest(unittest.TestCase):
    def check_wrong(self, rowset, query, value, budget):
        self.assertIs(check_steady(self, are_possible_outcomes, rowset, query, value, budget=budget), False)

    def changed(self, found):
        """Return tuples like the outcomes, each with something wrong."""
        results = [(), found + found, found[::-1], list(found), found + (((), ()),), (((), ()),) + found]
        results += [found[:index] + found[index + 1:] for index in range(len(found))]
        results += [found[:index + 1] + found[index:] for index in range(len(found))]
        results += [found[:index] + found[index:index + 2][::-1] + found[index + 2:] for index in range(len(found) - 1)]
        for index, (outcome, deleted) in enumerate(found):
            for other in ((deleted, outcome), (outcome, outcome), (deleted, deleted), (outcome,), [outcome, deleted],
                          (outcome, deleted, ()), (outcome, deleted + ('aa',)), (outcome + ('zz',), deleted),
                          (outcome, deleted[1:]), (outcome[1:], deleted), (list(outcome), deleted), None):
                results.append(found[:index] + (other,) + found[index + 1:])
                results.append(tuple(sorted((found[:index] + (other,) + found[index + 1:]), key=repr)))
        return [value for value in results if value != found]

    def test_changed_outcomes(self):
        for query in QUERIES[::2]:
            rowset = small_rowsets(query, 5)[1]
            for budget in (0, 3):
                for value in self.changed(possible_outcomes(rowset, query, budget=budget)):
                    self.check_wrong(rowset, query, value, budget)

    def test_outcomes_of_other_budgets(self):
        for query in QUERIES:
            rowset = small_rowsets(query, 6)[1]
            lists = {budget: possible_outcomes(rowset, query, budget=budget) for budget in range(6)}
            for budget, right in lists.items():
                for value in lists.values():
                    self.assertIs(are_possible_outcomes(rowset, query, value, budget=budget), value == right)

    def test_other_sets_with_the_same_outcome(self):
        self.assertIs(are_possible_outcomes(S, Q, ((('a',), ()), (('b',), ('a',))), budget=2), True)
        for least in (('a', 'c'), ('c',), (), ('b',), ('a', 'a')):
            self.check_wrong(S, Q, ((('a',), ()), (('b',), least)), 2)
        for least in (('b',), ('c',), ('b', 'c')):
            self.check_wrong(S, Q, ((('a',), least),), 1)

    def test_more_than_four_hundred_outcomes(self):
        for count in (9, 10, 11):
            rowset, whole = different_rows(count), outcomes_of_each(count)
            for budget in (count, 10 ** 9):
                self.assertIs(are_possible_outcomes(rowset, EACH, whole, budget=budget), True)
            self.check_wrong(rowset, EACH, whole, count - 1)
            for value in (whole[1:], whole[:-1], whole[:400], whole[:401], whole + whole[-1:], whole[::-1],
                          whole[:5] + whole[6:], whole[:7] + (whole[7][::-1],) + whole[8:], whole + ((), ())):
                self.check_wrong(rowset, EACH, value, count)
        rowset, query = chains(38)
        within = possible_outcomes(rowset, query, budget=37)
        self.assertEqual(len(within), 399)
        both = tuple(row[0] for row in rowset[:38])
        more = within + ((('zz',), both), (('aa', 'ab'), ('zz',)))
        self.assertIs(are_possible_outcomes(rowset, query, tuple(sorted(more)), budget=38), True)
        self.check_wrong(rowset, query, more, 38)
        self.check_wrong(rowset, query, tuple(sorted(more[:-1])), 38)
        self.check_wrong(rowset, query, tuple(sorted(more)), 37)

    def test_long_lists(self):
        rowset = different_rows(40)
        names = tuple(row[0] for row in rowset)
        least = [()] + [(name,) for name in names]
        least += [(name, other) for name in names for other in names if name < other]
        whole = tuple(sorted((tuple(name for name in names if name not in deleted), deleted) for deleted in least))
        self.assertEqual(len(whole), 821)
        self.assertIs(are_possible_outcomes(rowset, EACH, whole, budget=2), True)
        for value, budget in ((whole, 3), (whole[:-1], 2), (whole * 50, 2), ((1,) * 100000, 10 ** 9),
                              (whole[:1] * 100000, 10 ** 9)):
            self.assertIs(are_possible_outcomes(rowset, EACH, value, budget=budget), False)

    def test_any_value(self):
        for value in ODD_VALUES:
            for rowset, query in ((S, Q), (R, TOPS[1]), ((), Q)):
                for whole in (value, (value,), ((('a',), ()), value), ((('a',), value),), ((value, ()),),
                              ((('a',), (value,)),), (((value,), ()),), (((), ()), value)):
                    for budget in (0, 10 ** 9):
                        expected = whole == possible_outcomes(rowset, query, budget=budget)
                        self.assertIs(are_possible_outcomes(rowset, query, whole, budget=budget), expected)
        for value in replaced(possible_outcomes(S, Q, budget=2)):
            check_bool(self, are_possible_outcomes(S, Q, value, budget=2))


if __name__ == '__main__':
    unittest.main()
