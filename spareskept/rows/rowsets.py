"""Rows and rowsets."""

from spareskept.checks import check_among, check_between, is_ascending, is_between, is_tuple_between
from spareskept.errors import InvalidRowset, NameConflict, TooMany

MAX_ROWS = 60
MAX_WIDTH = 4
MAX_COST = 10 ** 6
MAX_VALUE = 10 ** 9
MAX_EXPIRY = 10 ** 9

MAX_LETTERS = 8
LETTERS = "abcdefghijklmnopqrstuvwxyz"

# The places of the parts of a row.
NAME = 0
COST = 1
VALUES = 2
EXPIRY = 3


def is_name(value):
    """Return whether the value is a name."""
    if not isinstance(value, str) or not 1 <= len(value) <= MAX_LETTERS:
        return False
    return all([letter in LETTERS for letter in value])


def is_row(value):
    """Return whether the value is a row."""
    if not is_tuple_between(value, 4, 4):
        return False
    name, cost, values, expiry = value
    if not is_name(name) or not is_between(cost, 1, MAX_COST):
        return False
    return are_row_values(values) and is_between(expiry, 1, MAX_EXPIRY)


def are_row_values(value):
    """Return whether the value is the values of a row."""
    if not is_tuple_between(value, 1, MAX_WIDTH):
        return False
    return all([is_between(number, -MAX_VALUE, MAX_VALUE) for number in value])


def is_row_of_width(value, width):
    """Return whether the value is a row with so many values."""
    return is_row(value) and len(value[VALUES]) == width


def are_rows_of_one_width(value):
    """Return whether the value is a tuple of rows with the same number of values."""
    if not isinstance(value, tuple) or not all([is_row(row) for row in value]):
        return False
    return have_one_width(value)


def have_one_width(rows):
    """Return whether the rows have the same number of values."""
    return all([len(row[VALUES]) == len(rows[0][VALUES]) for row in rows])


def width_of(rows):
    """Return the width of a rowset of these rows."""
    return len(rows[0][VALUES]) if rows else MAX_WIDTH


def is_rowset(value):
    """Return whether the value is a rowset."""
    if not is_tuple_between(value, 0, MAX_ROWS) or not are_rows_of_one_width(value):
        return False
    return is_ascending(names_of(value))


def is_rowset_of_width(value, width):
    """Return whether the value is a rowset of this width; the empty rowset has every width."""
    return is_rowset(value) and all([len(row[VALUES]) == width for row in value])


def names_of(rows):
    """Return the names of the rows, in the order of the rows."""
    return tuple([row[NAME] for row in rows])


def sorted_names_of(rows):
    """Return the names of the rows in ascending order."""
    return tuple(sorted(names_of(rows)))


def cost_of(rows):
    """Return the sum of the costs of the rows."""
    return sum([row[COST] for row in rows])


def by_falling_cost(rows):
    """Return a list of the rows, the most expensive ones first."""
    return sorted(rows, key=lambda row: -row[COST])


def rows_named(rowset, names):
    """Return a tuple of those rows whose names are among the names."""
    return tuple([row for row in rowset if row[NAME] in names])


def rows_not_named(rowset, names):
    """Return a tuple of those rows whose names are not among the names."""
    return tuple([row for row in rowset if row[NAME] not in names])


def check_rowset(rowset):
    """Raise InvalidRowset if the value is not a rowset."""
    if not is_rowset(rowset):
        raise InvalidRowset("not a rowset")


def check_width(width):
    """Raise InvalidNumber if the value is not a width."""
    check_between(width, 1, MAX_WIDTH)


def check_names(rowset, names):
    """Raise UnknownName if the value is not a tuple of names of rows of the rowset."""
    check_among(names_of(rowset), names)


def make_rowset(rows):
    """Return the rowset of the rows in the tuple, which may be in any order."""
    if not are_rows_of_one_width(rows):
        raise InvalidRowset("not a tuple of rows with the same number of values")
    if len(set(names_of(rows))) < len(rows):
        raise InvalidRowset("a name occurs twice")
    if len(rows) > MAX_ROWS:
        raise TooMany(MAX_ROWS)
    return tuple(sorted(rows))


def rowset_width(rowset):
    """Return the width of the rowset."""
    check_rowset(rowset)
    return width_of(rowset)


def row_names(rowset):
    """Return the names of the rows in ascending order."""
    check_rowset(rowset)
    return names_of(rowset)


def find_row(rowset, name):
    """Return the row with this name."""
    check_rowset(rowset)
    check_names(rowset, (name,))
    return rowset[names_of(rowset).index(name)]


def remove_rows(rowset, names):
    """Return the rowset without the named rows."""
    check_rowset(rowset)
    check_names(rowset, names)
    return rows_not_named(rowset, names)


def keep_rows(rowset, names):
    """Return the rowset of only the named rows."""
    check_rowset(rowset)
    check_names(rowset, names)
    return rows_named(rowset, names)


def total_cost(rowset, names):
    """Return the sum of the costs of the named rows, each counted once."""
    return cost_of(keep_rows(rowset, names))


def union_rowsets(rowsets):
    """Return one rowset with all rows of the rowsets."""
    if not isinstance(rowsets, tuple) or not all([is_rowset(rowset) for rowset in rowsets]):
        raise InvalidRowset("not a tuple of rowsets")
    rows = [row for rowset in rowsets for row in rowset]
    if not have_one_width(rows):
        raise InvalidRowset("two rowsets have different widths")
    check_conflicts(rows)
    united = different_rows(rows)
    if len(united) > MAX_ROWS:
        raise TooMany(MAX_ROWS)
    return united


def have_union(rows):
    """Return whether one rowset can hold all of the rows."""
    return have_one_width(rows) and not conflicting_names(rows) and len(different_rows(rows)) <= MAX_ROWS


def different_rows(rows):
    """Return a tuple of the rows in ascending order, each of them once."""
    return tuple(sorted(set(rows)))


def conflicting_names(rows):
    """Return a list of names that belong to two different rows."""
    found = {}
    for row in rows:
        found.setdefault(row[NAME], row)
    return [row[NAME] for row in rows if found[row[NAME]] != row]


def check_conflicts(rows):
    """Raise NameConflict, with the least name, if a name belongs to two different rows."""
    conflicts = conflicting_names(rows)
    if conflicts:
        raise NameConflict(min(conflicts))
