"""Top rows, capped top rows, groups and filters."""

from spareskept.checks import check_between, is_between
from spareskept.rows.conditions import check_condition, holds
from spareskept.rows.orders import check_order, sorted_rows
from spareskept.rows.rowsets import VALUES, rowset_width, sorted_names_of

MAX_COUNT = 9


def is_count(value):
    """Return whether the value is a count or a cap."""
    return is_between(value, 1, MAX_COUNT)


def check_count(count):
    """Raise InvalidNumber if the value is not a count or a cap."""
    check_between(count, 1, MAX_COUNT)


def top_names(rowset, order, *, count=1):
    """Return the names of the top rows in ascending order."""
    check_order(rowset_width(rowset), order)
    check_count(count)
    return sorted_names_of(top_rows(rowset, order, count))


def top_rows(rowset, order, count):
    """Return a list of the top rows."""
    return sorted_rows(rowset, order)[:count]


def capped_top_names(rowset, order, *, count=1, column=0, cap=1):
    """Return the names of the capped top rows in ascending order."""
    width = rowset_width(rowset)
    check_order(width, order)
    check_count(count)
    check_between(column, 0, width - 1)
    check_count(cap)
    return sorted_names_of(capped_top_rows(rowset, order, count, column, cap))


def capped_top_rows(rowset, order, count, column, cap):
    """Return a list of the capped top rows."""
    return capped_rows(sorted_rows(rowset, order), column, cap)[:count]


def capped_rows(rows, column, cap):
    """Return a list of the first rows of each value in the column, at most the cap for each."""
    taken = []
    numbers = {}
    for row in rows:
        value = row[VALUES][column]
        number = numbers.get(value, 0)
        if number < cap:
            taken.append(row)
            numbers[value] = number + 1
    return taken


def group_rows(rowset, column):
    """Return a dict from each value of the column, in ascending order, to the rowset of its rows."""
    check_between(column, 0, rowset_width(rowset) - 1)
    return groups_of(rowset, column)


def groups_of(rowset, column):
    """Return a dict from each value of the column, in ascending order, to a tuple of its rows."""
    groups = {}
    for row in rowset:
        groups.setdefault(row[VALUES][column], []).append(row)
    return {value: tuple(groups[value]) for value in sorted(groups)}


def group_of(rowset, column, row):
    """Return a tuple of the rows with the same value in the column as the row."""
    return tuple([other for other in rowset if other[VALUES][column] == row[VALUES][column]])


def filter_rows(rowset, condition):
    """Return the rowset of the rows that satisfy the condition."""
    check_condition(rowset_width(rowset), condition)
    return matching_rows(rowset, condition)


def matching_rows(rowset, condition):
    """Return a tuple of the rows that satisfy the condition."""
    return tuple([row for row in rowset if holds(row[VALUES], condition)])
