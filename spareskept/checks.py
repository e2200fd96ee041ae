"""Checks of plain values that several modules share."""

from spareskept.errors import InvalidNumber, UnknownName

DIRECTIONS = ("asc", "desc")


def is_between(value, low, high):
    """Return whether the value is an integer from low to high."""
    # Python counts True and False as numbers, the document does not.
    if isinstance(value, bool) or not isinstance(value, int):
        return False
    return low <= value <= high


def check_between(value, low, high):
    """Raise InvalidNumber if the value is not an integer from low to high."""
    if not is_between(value, low, high):
        raise InvalidNumber(value)


def check_columns(width, first, second):
    """Raise InvalidNumber if the values are not two distinct columns."""
    check_between(first, 0, width - 1)
    check_between(second, 0, width - 1)
    if second == first:
        raise InvalidNumber(second)


def is_tuple_between(value, low, high):
    """Return whether the value is a tuple of at least low and at most high parts."""
    return isinstance(value, tuple) and low <= len(value) <= high


def is_directed(width, value, length):
    """Return whether the value is a tuple of this length that begins with a column and a direction."""
    if not is_tuple_between(value, length, length):
        return False
    return is_between(value[0], 0, width - 1) and value[1] in DIRECTIONS


def have_distinct_columns(parts):
    """Return whether no two of the tuples begin with the same column."""
    return len({part[0] for part in parts}) == len(parts)


def is_ascending(names):
    """Return whether the names are in strictly ascending order."""
    return all([first < second for first, second in zip(names, names[1:])])


def are_among(known, value):
    """Return whether the value is a tuple of known names."""
    return isinstance(value, tuple) and all([name in known for name in value])


def are_ascending_among(known, value):
    """Return whether the value is an ascending tuple of known names."""
    return are_among(known, value) and is_ascending(value)


def check_among(known, names):
    """Raise UnknownName if the value is not a tuple of known names."""
    if not isinstance(names, tuple):
        raise UnknownName(names)
    for name in names:
        if name not in known:
            raise UnknownName(name)
