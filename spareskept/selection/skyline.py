"""Margins, domination and the skyline."""

from spareskept.checks import have_distinct_columns, is_between, is_directed, is_tuple_between
from spareskept.errors import InvalidMargins
from spareskept.rows.orders import check_two_rows
from spareskept.rows.rowsets import MAX_WIDTH, VALUES, check_width, find_row, names_of, rowset_width

MAX_MARGIN = 10 ** 9


def are_margins(width, value):
    """Return whether the value is margins for the width."""
    check_width(width)
    if not is_tuple_between(value, 1, MAX_WIDTH):
        return False
    return all([is_margin(width, triple) for triple in value]) and have_distinct_columns(value)


def is_margin(width, value):
    """Return whether the value is one triple of margins for the width."""
    return is_directed(width, value, 3) and is_between(value[2], 0, MAX_MARGIN)


def check_margins(width, margins):
    """Raise InvalidMargins if the value is not margins for the width."""
    if not are_margins(width, margins):
        raise InvalidMargins("not margins for this width")


def dominates(margins, first, second):
    """Return whether the first row dominates the second one."""
    check_two_rows(first, second)
    check_margins(len(first[VALUES]), margins)
    return is_better(first, second, margins)


def is_better(first, second, margins):
    """Return whether the first row dominates the second one, by valid margins."""
    gains = [gain(first[VALUES][column], second[VALUES][column], direction) for column, direction, _ in margins]
    enough = [won >= triple[2] for won, triple in zip(gains, margins)]
    # A margin of 0 lets equal values pass, so one gain must be positive.
    return all(enough) and max(gains) > 0


def gain(own, other, direction):
    """Return how much better the own value is than the other one."""
    return other - own if direction == "asc" else own - other


def dominators(rowset, margins, name):
    """Return, in ascending order, the names of all rows that dominate the named row."""
    check_margins(rowset_width(rowset), margins)
    return names_of(better_rows(rowset, margins, find_row(rowset, name)))


def better_rows(rowset, margins, row):
    """Return a list of the rows that dominate the row."""
    return [other for other in rowset if is_better(other, row, margins)]


def skyline_names(rowset, margins):
    """Return the names of the skyline in ascending order."""
    check_margins(rowset_width(rowset), margins)
    return names_of(skyline_rows(rowset, margins))


def skyline_rows(rowset, margins):
    """Return a list of the rows that no row of the rowset dominates."""
    return [row for row in rowset if not better_rows(rowset, margins, row)]
