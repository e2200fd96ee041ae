"""Orders of rows."""

from spareskept.checks import have_distinct_columns, is_directed, is_tuple_between
from spareskept.errors import InvalidOrder, InvalidRow
from spareskept.rows.rowsets import MAX_WIDTH, NAME, VALUES
from spareskept.rows.rowsets import check_width, is_row, is_row_of_width, names_of, rowset_width


def is_order(width, value):
    """Return whether the value is an order for the width."""
    check_width(width)
    if not is_tuple_between(value, 0, MAX_WIDTH):
        return False
    return all([is_directed(width, pair, 2) for pair in value]) and have_distinct_columns(value)


def check_order(width, order):
    """Raise InvalidOrder if the value is not an order for the width."""
    if not is_order(width, order):
        raise InvalidOrder("not an order for this width")


def check_two_rows(first, second):
    """Raise InvalidRow if the values are not two rows with the same number of values."""
    if not is_row(first):
        raise InvalidRow("the first value is not a row")
    if not is_row_of_width(second, len(first[VALUES])):
        raise InvalidRow("the second value is not a row with as many values as the first")


def order_key(row, order):
    """Return a key that is smaller than that of another row exactly if the row precedes it."""
    values = row[VALUES]
    listed = [values[column] if direction == "asc" else -values[column] for column, direction in order]
    return (listed, row[NAME])


def precedes(order, first, second):
    """Return whether the first row precedes the second one."""
    check_two_rows(first, second)
    check_order(len(first[VALUES]), order)
    return order_key(first, order) < order_key(second, order)


def preceding_rows(rowset, order, row):
    """Return a list of the rows of the rowset that precede the row."""
    key = order_key(row, order)
    return [other for other in rowset if order_key(other, order) < key]


def sorted_rows(rowset, order):
    """Return a list of the rows, each before the rows that it precedes."""
    return sorted(rowset, key=lambda row: order_key(row, order))


def sorted_names(rowset, order):
    """Return the names, each row before the rows that it precedes."""
    check_order(rowset_width(rowset), order)
    return names_of(sorted_rows(rowset, order))
