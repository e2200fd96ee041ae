"""Top rows, capped top rows, groups and filters."""

from spareskept.checks import check_between
from spareskept.rows.conditions import check_condition, holds
from spareskept.rows.orders import check_order, sorted_rows
from spareskept.rows.rowsets import VALUES, names_of, rowset_width

MAX_COUNT = 9


def check_count(count):
    """Raise InvalidNumber if the value is not a count or a cap."""
    check_between(count, 1, MAX_COUNT)


def top_names(rowset, order, *, count=1):
    """Return the names of the top rows in ascending order."""
    check_order(rowset_width(rowset), order)
    check_count(count)
    return sorted_names_of(sorted_rows(rowset, order)[:count])


def sorted_names_of(rows):
    """Return the names of the rows in ascending order."""
    return tuple(sorted(names_of(rows)))


def capped_top_names(rowset, order, *, count=1, column=0, cap=1):
    """Return the names of the capped top rows in ascending order."""
    width = rowset_width(rowset)
    check_order(width, order)
    check_count(count)
    check_between(column, 0, width - 1)
    check_count(cap)
    return sorted_names_of(capped_rows(sorted_rows(rowset, order), column, cap)[:count])


def capped_rows(rows, column, cap):
    """Return a list of the first rows of each value in the column, at most the cap for each."""
    taken = []
    numbers = {}
    for row in rows:
        value = row[VALUES][column]
        number = numbers.get(value, 0)
        if number < cap:
            taken.append(row)
            numbers[value] = number + 1
    return taken


def group_rows(rowset, column):
    """Return a dict from each value of the column, in ascending order, to the rowset of its rows."""
    check_between(column, 0, rowset_width(rowset) - 1)
    groups = {}
    for row in rowset:
        groups.setdefault(row[VALUES][column], []).append(row)
    return {value: tuple(groups[value]) for value in sorted(groups)}


def filter_rows(rowset, condition):
    """Return the rowset of the rows that satisfy the condition."""
    check_condition(rowset_width(rowset), condition)
    return tuple([row for row in rowset if holds(row[VALUES], condition)])
