"""Hull rows, and what keeps a row from being one."""

from spareskept.checks import check_columns, is_between, is_tuple_between
from spareskept.errors import InvalidNumber
from spareskept.rows.rowsets import COST, NAME, VALUES
from spareskept.rows.rowsets import cost_of, find_row, names_of, rowset_width, sorted_names_of

# A direction has at most forty digits.
MAX_PART = 10 ** 40 - 1

# A direction at right angles to a step is tilted by one part of the step in so many. Two steps have a
# scalar product of at most 8 * 10 ** 18, so no row at another angle notices the tilt.
TILT = 10 ** 20


def check_hull(rowset, x, y):
    """Raise an error if the rowset or one of its two columns is not valid."""
    check_columns(rowset_width(rowset), x, y)


def is_direction(value):
    """Return whether the value is a direction."""
    if not is_tuple_between(value, 2, 2):
        return False
    return all([is_between(part, -MAX_PART, MAX_PART) for part in value]) and value != (0, 0)


def point_of(row, x, y):
    """Return the point of the row."""
    return (row[VALUES][x], row[VALUES][y])


def hull_names(rowset, x, y):
    """Return the names of the hull rows in ascending order."""
    check_hull(rowset, x, y)
    return sorted_names_of(hull_rows(rowset, x, y))


def hull_rows(rowset, x, y):
    """Return a list of the hull rows."""
    first_rows = {}
    for row in rowset:
        first_rows.setdefault(point_of(row, x, y), row)
    return [first_rows[point] for point in corners(sorted(first_rows))]


def corners(points):
    """Return the corners of the points, which are distinct and sorted."""
    lower = half_hull(points)
    upper = half_hull(points[::-1])
    # Both halves hold the two outermost points, or the only one.
    return lower + [point for point in upper if point not in lower]


def half_hull(points):
    """Return the corners on the left turning way from the first point to the last one."""
    way = []
    for point in points:
        while len(way) > 1 and turn(way[-2], way[-1], point) <= 0:
            way.pop()
        way.append(point)
    return way


def turn(start, middle, end):
    """Return a number that is positive if the way turns left at the middle, and 0 if it is straight."""
    across = (middle[0] - start[0]) * (end[1] - start[1])
    along = (middle[1] - start[1]) * (end[0] - start[0])
    return across - along


def blocking_names(rowset, x, y, name, direction):
    """Return the names of the rows that block the named row in the direction, in ascending order."""
    check_hull(rowset, x, y)
    row = find_row(rowset, name)
    if not is_direction(direction):
        raise InvalidNumber(direction)
    return names_of(blocking_rows(rowset, x, y, row, direction))


def blocking_rows(rowset, x, y, row, direction):
    """Return a list of the rows that block the row in the direction."""
    return [other for other in rowset if blocks(other, row, x, y, direction)]


def blocks(other, row, x, y, direction):
    """Return whether the other row blocks the row in the direction."""
    step = step_between(row, other, x, y)
    if step == (0, 0):
        return other[NAME] < row[NAME]
    return direction[0] * step[0] + direction[1] * step[1] >= 0


def step_between(row, other, x, y):
    """Return the difference from the point of the row to that of the other row."""
    return (other[VALUES][x] - row[VALUES][x], other[VALUES][y] - row[VALUES][y])


def cheapest_direction(rowset, x, y, name):
    """Return the total cost of the blocking rows in a cheapest direction, and that direction."""
    check_hull(rowset, x, y)
    return best_direction(rowset, x, y, find_row(rowset, name))


def best_direction(rowset, x, y, row):
    """Return the total cost of the blocking rows in a cheapest direction of the row, and that direction."""
    twins = [other for other in rowset if point_of(other, x, y) == point_of(row, x, y)]
    # These block in every direction.
    least = cost_of([other for other in twins if other[NAME] < row[NAME]])
    steps = [(step_between(row, other, x, y), other[COST]) for other in rowset if other not in twins]
    directions = tilted_directions([step for step, _ in steps])
    return min([(least + cost_ahead(steps, direction), direction) for direction in directions])


def cost_ahead(steps, direction):
    """Return the total cost of the steps, pairs (step, cost), that do not lead back against the direction."""
    u, v = direction
    return sum([cost for (across, up), cost in steps if u * across + v * up >= 0])


def tilted_directions(steps):
    """Return directions of which one is cheapest for a row from which these steps lead to the other points."""
    # While a direction turns to the left, a row at another point stops blocking exactly when the
    # direction passes the right angle on the left of the step to that point. So a cheapest direction
    # is found right behind such an angle, or anywhere if there is no other point.
    return [(1, 0)] + [(-up * TILT - across, across * TILT - up) for across, up in steps]
