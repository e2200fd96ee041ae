"""Conditions that rows satisfy."""

from spareskept.checks import is_between, is_tuple_between
from spareskept.errors import InvalidCondition, InvalidRow
from spareskept.rows.rowsets import MAX_VALUE, VALUES, check_width, is_row

MAX_CONDITION_NESTING = 3
MAX_PARTS = 4
COMPARISONS = ("ge", "le", "eq")
CONNECTIVES = ("and", "or")


def is_condition(width, value):
    """Return whether the value is a condition for the width."""
    check_width(width)
    return is_condition_within(width, value, MAX_CONDITION_NESTING)


def is_condition_within(width, value, nesting):
    """Return whether the value is a condition with at most so many conditions nested."""
    if nesting == 0 or not is_tuple_between(value, 2, 3):
        return False
    if len(value) == 3:
        return is_comparison(width, value)
    if value[0] == "not":
        return is_condition_within(width, value[1], nesting - 1)
    if value[0] not in CONNECTIVES or not is_tuple_between(value[1], 2, MAX_PARTS):
        return False
    return all([is_condition_within(width, part, nesting - 1) for part in value[1]])


def is_comparison(width, triple):
    """Return whether the triple compares a column with a number."""
    word, column, number = triple
    if word not in COMPARISONS or not is_between(column, 0, width - 1):
        return False
    return is_between(number, -MAX_VALUE, MAX_VALUE)


def check_condition(width, condition):
    """Raise InvalidCondition if the value is not a condition for the width."""
    if not is_condition(width, condition):
        raise InvalidCondition("not a condition for this width")


def satisfies(row, condition):
    """Return whether the row satisfies the condition."""
    if not is_row(row):
        raise InvalidRow("not a row")
    check_condition(len(row[VALUES]), condition)
    return holds(row[VALUES], condition)


def holds(values, condition):
    """Return whether a row with these values satisfies the condition."""
    word = condition[0]
    if word == "not":
        return not holds(values, condition[1])
    if word == "and":
        return all([holds(values, part) for part in condition[1]])
    if word == "or":
        return any([holds(values, part) for part in condition[1]])
    return compares(word, values[condition[1]], condition[2])


def compares(word, value, number):
    """Return whether the value stands to the number as the word says."""
    if word == "ge":
        return value >= number
    if word == "le":
        return value <= number
    return value == number
