"""Tests of spareskept.selection.hull: 5.1 and 5.2."""

import unittest
from itertools import combinations

from spareskept.errors import InvalidNumber, InvalidRowset, UnknownName
from spareskept.rows.rowsets import keep_rows, remove_rows, total_cost
from spareskept.selection.hull import blocking_names, cheapest_direction, hull_names
from tests.values import E, NOT_NAMES_OF_ROWS, NOT_ROWSETS, R, SIXTY
from tests.values import cases, check_errors, check_raises, check_selection, check_steady, cost_of, holding
from tests.values import name_of, numbers_outside, random_rowset, rows_of_width, subsets

FAR = 10 ** 9
FORTY = 10 ** 40 - 1
DIRECTIONS = ((1, 0), (0, 1), (-1, 0), (0, -1), (2, 4), (-3, 3), (6, -2), (-FORTY, FORTY), (FORTY, 1), (1, -FORTY))
NOT_DIRECTIONS = (
    (0, 0), (10 ** 40, 1), (1, 10 ** 40), (-10 ** 40, 1), (1, -10 ** 40), (True, 1), (1, True), (1, False), (False, 0),
    (1,), (1, 2, 3), (), [1, 2], None, 1, 'ab', '12', ('1', '2'), (None, 1), (1, None), {1: 2, 2: 1}, ((1, 2),),
    ([1], 2),
)
COLUMNS_CASES = [
    (0, cases(NOT_ROWSETS, InvalidRowset)),
    (1, holding(numbers_outside(0, 1), InvalidNumber, 'value')),
    (2, holding(numbers_outside(0, 1) + (0,), InvalidNumber, 'value')),
]


def rows_at(*points, cost=1):
    return tuple((name_of(number), cost, point, 1) for number, point in enumerate(points))


def turn(one, two, three):
    return (two[0] - one[0]) * (three[1] - one[1]) - (two[1] - one[1]) * (three[0] - one[0])


def is_inside(point, others):
    """Return whether the point is in the convex hull of the others: in one, between two, or within three of them."""
    if point in others:
        return True
    for one, two in combinations(others, 2):
        if turn(one, two, point) == 0 and min(one, two) <= point <= max(one, two):
            return True
    for one, two, three in combinations(others, 3):
        turns = (turn(one, two, point), turn(two, three, point), turn(three, one, point))
        if turn(one, two, three) != 0 and (min(turns) >= 0 or max(turns) <= 0):
            return True
    return False


def hull_reference(rowset, x, y):
    first = {}
    for row in rowset:
        first.setdefault((row[2][x], row[2][y]), row[0])
    return tuple(sorted(
        name for point, name in first.items() if not is_inside(point, [other for other in first if other != point])))


def blocking_reference(rowset, x, y, name, direction):
    u, v = direction
    own = next(row for row in rowset if row[0] == name)
    found = []
    for row in rowset:
        step = (row[2][x] - own[2][x], row[2][y] - own[2][y])
        if row[0] < name if step == (0, 0) else u * step[0] + v * step[1] >= 0:
            found.append(row[0])
    return tuple(found)


class HullTest(unittest.TestCase):
    def check_corners(self, points, corners):
        rowset = rows_at(*points)
        expected = tuple(row[0] for row in rowset if row[2] in corners)
        self.assertEqual(check_steady(self, hull_names, rowset, 0, 1), expected)
        self.assertEqual(check_steady(self, hull_names, rowset, 1, 0), expected)

    def test_few_points(self):
        self.assertEqual(hull_names((), 0, 1), ())
        self.assertEqual(hull_names((), 3, 2), ())
        self.check_corners([(5, 5)], [(5, 5)])
        self.check_corners([(5, 5), (1, 7)], [(5, 5), (1, 7)])
        self.check_corners([(0, 0), (2, 1), (1, 2)], [(0, 0), (2, 1), (1, 2)])

    def test_collinear_points(self):
        for step in ((1, 0), (0, 1), (1, 1), (-1, 2), (3, -2)):
            points = [(5 + step[0] * times, 5 + step[1] * times) for times in (2, 0, 4, 1, 3)]
            self.check_corners(points, [points[1], points[2]])

    def test_points_on_the_sides_and_inside(self):
        square = [(0, 0), (4, 0), (4, 4), (0, 4)]
        others = [(2, 0), (4, 1), (3, 4), (0, 2), (2, 2), (1, 3)]
        self.check_corners(others + square, square)
        self.check_corners(square + others, square)

    def test_several_rows_at_one_point(self):
        rowset = rows_at((0, 0), (2, 2), (0, 0), (1, 1), (2, 2), (1, 1))
        self.assertEqual(hull_names(rowset, 0, 1), (rowset[0][0], rowset[1][0]))
        self.assertEqual(hull_names(rowset[2:], 0, 1), (rowset[2][0], rowset[4][0]))
        same = rows_at((3, 3), (3, 3), (3, 3))
        self.assertEqual(hull_names(same, 0, 1), (same[0][0],))

    def test_points_almost_on_a_line(self):
        ends = [(-FAR, -FAR), (FAR, FAR - 1)]
        self.check_corners(ends + [(0, 0)], ends + [(0, 0)])
        self.check_corners(ends + [(0, -1)], ends + [(0, -1)])
        line = [(-FAR, -FAR), (FAR, FAR)]
        self.check_corners(line + [(0, 0), (1, 1)], line)
        self.check_corners(line + [(0, 1), (1, 1)], line + [(0, 1)])

    def test_values_at_their_bounds(self):
        corners = [(FAR, FAR), (-FAR, FAR), (FAR, -FAR), (-FAR, -FAR)]
        self.check_corners(corners + [(FAR, 0), (0, 0), (FAR, FAR - 1)], corners)

    def test_other_columns(self):
        rowset = tuple((row[0], 1, (row[2][1], 7, row[2][0]), 1) for row in E)
        self.assertEqual(hull_names(rowset, 2, 0), hull_names(E, 0, 1))
        self.assertEqual(hull_names(rowset, 0, 2), hull_names(E, 0, 1))
        self.assertEqual(hull_names(rowset, 1, 2), ('a', 'e'))

    def test_many_rowsets(self):
        for seed in range(60):
            rowset = random_rowset(seed, 1 + seed % 11, 3, low=-2, high=2)
            self.assertEqual(hull_names(rowset, 2, 0), hull_reference(rowset, 2, 0))
        for seed in range(10):
            rowset = random_rowset(seed, 25, 2, low=-FAR, high=FAR)
            self.assertEqual(hull_names(rowset, 0, 1), hull_reference(rowset, 0, 1))

    def test_sixty_rows(self):
        self.assertEqual(hull_names(SIXTY, 0, 1), (SIXTY[0][0], SIXTY[59][0]))
        curve = rows_at(*[(number, number * number) for number in range(60)])
        self.assertEqual(len(hull_names(curve, 0, 1)), 60)

    def test_path_independence(self):
        for seed in range(12):
            check_selection(
                self, lambda rows: hull_names(rows, 0, 1), random_rowset(seed, 6, 2, high=2 + seed % 2))

    def test_errors(self):
        check_errors(self, hull_names, {0: R, 1: 0, 2: 1}, COLUMNS_CASES)
        check_raises(self, (InvalidNumber, 'value', 1), hull_names, R, 1, 1)
        check_raises(self, (InvalidNumber, 'value', 4), hull_names, (), 0, 4)
        check_raises(self, (InvalidNumber, 'value', 4), hull_names, (), 4, 4)
        check_raises(self, (InvalidNumber, 'value', 0), hull_names, rows_of_width(2, 1), 0, 0)
        check_raises(self, (InvalidNumber, 'value', 1), hull_names, rows_of_width(2, 1), 0, 1)


class BlockingTest(unittest.TestCase):
    def test_directions(self):
        for direction, names in (((1, 0), 'e'), ((3, 0), 'e'), ((-1, 0), 'a c d'), ((0, 1), 'c d e'),
                                 ((0, -5), 'a c d e'), ((1, -1), 'a e'), ((-1, 1), 'a c d'), ((1, 1), 'e'),
                                 ((-FORTY, -1), 'a c d')):
            found = check_steady(self, blocking_names, E, 0, 1, 'b', direction)
            self.assertEqual(found, tuple(names.split()), direction)

    def test_the_swapped_columns_swap_the_direction(self):
        for u, v in DIRECTIONS:
            for row in E:
                self.assertEqual(
                    blocking_names(E, 0, 1, row[0], (u, v)), blocking_names(E, 1, 0, row[0], (v, u)))

    def test_rows_at_its_own_point(self):
        same = rows_at((3, 3), (3, 3), (3, 3))
        for direction in DIRECTIONS:
            for number, row in enumerate(same):
                expected = tuple(other[0] for other in same[:number])
                self.assertEqual(blocking_names(same, 0, 1, row[0], direction), expected)

    def test_without_its_blocking_rows_a_row_is_a_hull_row(self):
        for seed in range(12):
            rowset = random_rowset(seed, 9, 2, low=-2, high=2)
            for row in rowset:
                for direction in DIRECTIONS:
                    found = blocking_names(rowset, 0, 1, row[0], direction)
                    self.assertEqual(found, blocking_reference(rowset, 0, 1, row[0], direction))
                    self.assertIn(row[0], hull_names(remove_rows(rowset, found), 0, 1))

    def test_opposite_directions_block_with_all_rows_at_other_points(self):
        for seed in range(6):
            rowset = random_rowset(seed, 9, 2, low=-2, high=2)
            for row in rowset:
                for u, v in DIRECTIONS:
                    both = blocking_names(rowset, 0, 1, row[0], (u, v)) + blocking_names(
                        rowset, 0, 1, row[0], (-u, -v))
                    others = {other[0] for other in rowset if other[2] != row[2]}
                    self.assertTrue(others <= set(both))

    def test_large_directions_are_exact(self):
        rowset = rows_at((0, 0), (FAR, -FAR), (-FAR, FAR), (-FAR, FAR - 1), (FAR, FAR))
        name = rowset[0][0]
        for direction, numbers in (((FORTY, FORTY), (1, 2, 4)), ((FORTY, FORTY - 1), (1, 4)),
                                   ((FORTY - 1, FORTY), (2, 4)), ((-FORTY, -FORTY), (1, 2, 3))):
            expected = tuple(rowset[number][0] for number in numbers)
            self.assertEqual(blocking_names(rowset, 0, 1, name, direction), expected)

    def test_errors(self):
        check_errors(self, blocking_names, {0: R, 1: 0, 2: 1, 3: 'ann', 4: (1, 1)}, COLUMNS_CASES + [
            (3, holding(NOT_NAMES_OF_ROWS, UnknownName, 'name')),
            (4, holding(NOT_DIRECTIONS, InvalidNumber, 'value'))])
        check_raises(self, (UnknownName, 'name', 'ann'), blocking_names, (), 0, 1, 'ann', (0, 0))


class CheapestDirectionTest(unittest.TestCase):
    def check_cheapest(self, rowset, x, y):
        """Check the result for each row against all sets of other rows."""
        for row in rowset:
            cost, direction = check_steady(self, cheapest_direction, rowset, x, y, row[0])
            self.check_direction(rowset, x, y, row, cost, direction)
            others = [other for other in rowset if other != row]
            exposing = [
                cost_of(deleted) for deleted in subsets(others)
                if row[0] in hull_names(tuple(other for other in rowset if other not in deleted), x, y)]
            self.assertEqual(cost, min(exposing))

    def check_direction(self, rowset, x, y, row, cost, direction):
        self.assertIsInstance(direction, tuple)
        self.assertTrue(all(type(part) is int and abs(part) <= FORTY for part in direction) and any(direction))
        names = blocking_names(rowset, x, y, row[0], direction)
        self.assertEqual(cost, total_cost(rowset, names))
        self.assertIn(row[0], hull_names(remove_rows(rowset, names), x, y))

    def test_all_sets(self):
        for seed in range(14):
            self.check_cheapest(random_rowset(seed, 7, 2, low=-1, high=1 + seed % 3), 0, 1)
            self.check_cheapest(random_rowset(seed, 6, 3, low=-2, high=2, cost=10 ** 6), 2, 0)

    def test_all_sets_of_far_points(self):
        for seed in range(6):
            self.check_cheapest(random_rowset(seed, 7, 2, low=-FAR, high=FAR), 0, 1)
        near = [(FAR, FAR), (FAR - 1, FAR - 1), (FAR - 2, FAR - 2), (-FAR, -FAR), (-FAR, 1 - FAR), (0, 0), (1, 0)]
        self.check_cheapest(rows_at(*near), 0, 1)
        self.check_cheapest(tuple(
            (row[0], 1 + number * 7 % 5, row[2], 1) for number, row in enumerate(rows_at(*near))), 1, 0)

    def test_one_wide_line(self):
        rowset = rows_at(*[(-FAR + number, FAR - number) for number in range(6)])
        self.check_cheapest(rowset, 0, 1)
        self.assertEqual([cheapest_direction(rowset, 0, 1, row[0])[0] for row in rowset], [0, 1, 2, 2, 1, 0])

    def test_rows_at_one_point(self):
        same = rows_at((3, 3), (3, 3), (3, 3), cost=4)
        self.check_cheapest(same, 0, 1)
        self.assertEqual([cheapest_direction(same, 0, 1, row[0])[0] for row in same], [0, 4, 8])

    def test_hull_rows_cost_nothing(self):
        for seed in range(10):
            rowset = random_rowset(seed, 20, 2, low=-4, high=4)
            free = tuple(row[0] for row in rowset if cheapest_direction(rowset, 0, 1, row[0])[0] == 0)
            self.assertEqual(free, hull_names(rowset, 0, 1))

    def test_sizes(self):
        single = keep_rows(R, ('cat',))
        cost, direction = cheapest_direction(single, 0, 1, 'cat')
        self.assertEqual(cost, 0)
        self.check_direction(single, 0, 1, single[0], cost, direction)
        rowset = random_rowset(1, 60, 2, low=-9, high=9, cost=10 ** 6)
        for row in rowset[::7]:
            cost, direction = cheapest_direction(rowset, 0, 1, row[0])
            self.check_direction(rowset, 0, 1, row, cost, direction)
            for angle in DIRECTIONS:
                self.assertLessEqual(cost, total_cost(rowset, blocking_names(rowset, 0, 1, row[0], angle)))

    def test_errors(self):
        check_errors(self, cheapest_direction, {0: R, 1: 0, 2: 1, 3: 'ann'}, COLUMNS_CASES + [
            (3, holding(NOT_NAMES_OF_ROWS, UnknownName, 'name'))])
        check_raises(self, (UnknownName, 'name', 'ann'), cheapest_direction, (), 0, 1, 'ann')


if __name__ == '__main__':
    unittest.main()
