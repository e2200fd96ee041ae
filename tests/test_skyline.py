"""Tests of spareskept.selection.skyline: 4.1."""

import unittest

from spareskept.errors import InvalidMargins, InvalidNumber, InvalidRow, InvalidRowset, UnknownName
from spareskept.selection.skyline import are_margins, dominates, dominators, skyline_names
from tests.test_orders import NOT_ROWS
from tests.values import NOT_INTEGERS, NOT_MARGINS, NOT_NAMES_OF_ROWS, NOT_ROWSETS, ODD_VALUES, R, SIXTY
from tests.values import cases, check_bool, check_errors, check_raises, check_selection, check_steady, holding
from tests.values import numbers_outside, random_rowset, replaced

BEST = ((0, 'asc', 0), (1, 'asc', 0))
ALL_MARGINS = (
    BEST, ((0, 'asc', 1),), ((1, 'desc', 0),), ((0, 'desc', 2), (1, 'asc', 0)), ((1, 'asc', 1), (0, 'desc', 1)),
)
MARGINS_CASES = cases(NOT_MARGINS + (((2, 'asc', 0),),), InvalidMargins)


def row_at(*values, name='a'):
    return (name, 1, values, 1)


def dominates_reference(margins, first, second):
    """Return whether the first row dominates the second in the words of 4.1."""
    positive = False
    for column, direction, margin in margins:
        gain = {'asc': 1, 'desc': -1}[direction] * (second[2][column] - first[2][column])
        if gain < margin:
            return False
        positive = positive or gain > 0
    return positive


class AreMarginsTest(unittest.TestCase):
    def test_margins(self):
        full = tuple((column, 'desc', column) for column in range(4))
        for width in (1, 2, 3, 4):
            for count in range(5):
                self.assertIs(are_margins(width, full[:count]), 1 <= count <= width)
        self.assertIs(are_margins(4, ((3, 'asc', 0), (1, 'desc', 10 ** 9), (0, 'asc', 5))), True)

    def test_columns(self):
        for width in (1, 2, 3, 4):
            for column in range(-2, 6):
                self.assertIs(are_margins(width, ((column, 'asc', 0),)), 0 <= column < width)
        for value in NOT_INTEGERS:
            self.assertIs(are_margins(4, ((value, 'asc', 0),)), False, value)
            self.assertIs(are_margins(4, ((2, 'asc', 0), (value, 'asc', 0))), False, value)

    def test_numbers(self):
        for margin in (0, 1, 10 ** 9):
            self.assertIs(are_margins(1, ((0, 'asc', margin),)), True)
        for value in numbers_outside(0, 10 ** 9):
            self.assertIs(are_margins(1, ((0, 'asc', value),)), False, value)

    def test_directions(self):
        for value in ('', 'ASC', 'as', None, True, 1, ('asc',), ['asc'], {'asc': 1}):
            self.assertIs(are_margins(2, ((0, value, 0),)), False, value)

    def test_not_margins(self):
        for value in NOT_MARGINS:
            self.assertIs(are_margins(4, value), False, value)

    def test_any_value(self):
        for value in ODD_VALUES:
            self.assertIs(are_margins(4, value), False, value)
        for value in replaced(((1, 'asc', 3), (0, 'desc', 0))):
            check_bool(self, are_margins(2, value))

    def test_width(self):
        check_errors(self, are_margins, {0: 1, 1: ((0, 'asc', 0),)}, [
            (0, holding(numbers_outside(1, 4), InvalidNumber, 'value'))])
        check_raises(self, (InvalidNumber, 'value', 0), are_margins, 0, None)


class DominatesTest(unittest.TestCase):
    def test_a_gain_of_the_margin_and_one_less(self):
        for margin in (1, 2, 10 ** 9):
            for direction, first, second in (('asc', 0, margin), ('desc', margin, 0)):
                margins = ((0, direction, margin),)
                self.assertIs(check_steady(self, dominates, margins, row_at(first), row_at(second)), True)
                self.assertIs(dominates(margins, row_at(second), row_at(first)), False)
                if direction == 'asc':
                    second -= 1
                else:
                    first -= 1
                self.assertIs(dominates(margins, row_at(first), row_at(second)), False)

    def test_a_margin_of_0(self):
        for direction in ('asc', 'desc'):
            self.assertIs(dominates(((0, direction, 0),), row_at(3), row_at(3, name='b')), False)
        self.assertIs(dominates(((0, 'asc', 0),), row_at(3), row_at(4)), True)
        self.assertIs(dominates(((0, 'desc', 0),), row_at(3), row_at(4)), False)

    def test_several_columns(self):
        for first, second, expected in (((1, 1), (1, 1), False), ((1, 1), (1, 2), True), ((1, 1), (2, 1), True),
                                        ((1, 1), (2, 0), False), ((1, 1), (0, 2), False), ((1, 1), (2, 2), True)):
            self.assertIs(dominates(BEST, row_at(*first), row_at(*second)), expected)
        mixed = ((0, 'asc', 2), (1, 'desc', 0))
        for first, second, expected in (((0, 5), (2, 5), True), ((0, 5), (1, 0), False), ((0, 5), (2, 6), False)):
            self.assertIs(dominates(mixed, row_at(*first), row_at(*second)), expected)

    def test_only_listed_columns_and_values_count(self):
        first, second = ('z', 9, (1, 9), 1), ('a', 1, (2, 0), 9)
        self.assertIs(dominates(((0, 'asc', 0),), first, second), True)
        self.assertIs(dominates(((1, 'asc', 0),), second, first), True)

    def test_a_row_against_itself(self):
        for margins in ALL_MARGINS:
            self.assertIs(dominates(margins, R[0], R[0]), False)

    def test_all_pairs(self):
        for margins in ALL_MARGINS:
            rowset = random_rowset(5, 12, 2, low=-2, high=2)
            for first in rowset:
                for second in rowset:
                    expected = dominates_reference(margins, first, second)
                    self.assertIs(dominates(margins, first, second), expected)

    def test_errors(self):
        check_errors(self, dominates, {0: ((1, 'asc', 0),), 1: R[0], 2: R[1]}, [
            (1, cases(NOT_ROWS, InvalidRow)), (2, cases(NOT_ROWS + (row_at(1), row_at(1, 2, 3)), InvalidRow)),
            (0, MARGINS_CASES)])
        check_raises(self, InvalidRow, dominates, BEST, row_at(1), R[1])
        check_raises(self, InvalidMargins, dominates, BEST, row_at(1), row_at(2))


class SkylineTest(unittest.TestCase):
    def test_dominators_and_skyline(self):
        for seed in range(6):
            rowset = random_rowset(seed, 12, 2, low=-2, high=3)
            for margins in ALL_MARGINS:
                skyline = []
                for row in rowset:
                    better = tuple(other[0] for other in rowset if dominates_reference(margins, other, row))
                    self.assertEqual(check_steady(self, dominators, rowset, margins, row[0]), better)
                    if not better:
                        skyline.append(row[0])
                self.assertEqual(check_steady(self, skyline_names, rowset, margins), tuple(skyline))

    def test_sizes(self):
        self.assertEqual(skyline_names((), ((3, 'asc', 0),)), ())
        self.assertEqual(skyline_names(SIXTY, BEST), (SIXTY[0][0],))
        self.assertEqual(dominators(SIXTY, BEST, SIXTY[59][0]), tuple(row[0] for row in SIXTY[:59]))
        same = tuple((row[0], 1, (0, 0), 1) for row in SIXTY)
        self.assertEqual(skyline_names(same, BEST), tuple(row[0] for row in SIXTY))

    def test_path_independence(self):
        for seed in range(3):
            for margins in ALL_MARGINS:
                rowset = random_rowset(seed, 6, 2, high=3)
                check_selection(self, lambda rows: skyline_names(rows, margins), rowset)

    def test_errors(self):
        first = [(0, cases(NOT_ROWSETS, InvalidRowset)), (1, MARGINS_CASES)]
        check_errors(self, skyline_names, {0: R, 1: BEST}, first)
        check_errors(self, dominators, {0: R, 1: BEST, 2: 'ann'}, first + [
            (2, holding(NOT_NAMES_OF_ROWS, UnknownName, 'name'))])
        check_raises(self, InvalidMargins, skyline_names, (), ((4, 'asc', 0),))
        check_raises(self, (UnknownName, 'name', 'ann'), dominators, (), ((3, 'asc', 0),), 'ann')


if __name__ == '__main__':
    unittest.main()
