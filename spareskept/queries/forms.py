"""The forms of queries."""

from spareskept.checks import is_between, is_tuple_between
from spareskept.errors import InvalidQuery
from spareskept.rows.conditions import is_condition
from spareskept.rows.orders import is_order
from spareskept.rows.rowsets import check_width
from spareskept.selection.skyline import are_margins
from spareskept.selection.top import is_count
from spareskept.tables.tables import is_path_independent

MAX_NESTING = 4
MAX_QUERIES = 4

# How many parts the queries of a kind have.
LENGTHS = {
    "top": 3,
    "capped": 5,
    "where": 3,
    "group": 3,
    "skyline": 2,
    "hull": 3,
    "forest": 4,
    "union": 2,
    "table": 2,
}


def is_column(width, value):
    """Return whether the value is a column of rows of the width."""
    return is_between(value, 0, width - 1)


def is_top(width, query):
    """Return whether the parts of the query are those of a query for top rows."""
    return is_order(width, query[1]) and is_count(query[2])


def is_capped(width, query):
    """Return whether the parts of the query are those of a query for capped top rows."""
    _, order, count, column, cap = query
    return is_order(width, order) and is_count(count) and is_column(width, column) and is_count(cap)


def is_skyline(width, query):
    """Return whether the parts of the query are those of a query for the skyline."""
    return are_margins(width, query[1])


def is_hull(width, query):
    """Return whether the second and the third part of the query are two distinct columns."""
    return is_column(width, query[1]) and is_column(width, query[2]) and query[1] != query[2]


def is_forest(width, query):
    """Return whether the parts of the query are those of a query for the forest."""
    return is_hull(width, query) and is_order(width, query[3])


def is_listed(_, query):
    """Return whether the parts of the query are those of a query by a table, which fits every width."""
    return is_path_independent(query[1])


# The checks of the kinds of queries that have no inner queries.
FORMS = {
    "top": is_top,
    "capped": is_capped,
    "skyline": is_skyline,
    "hull": is_hull,
    "forest": is_forest,
    "table": is_listed,
}


def is_query(width, value):
    """Return whether the value is a query for the width."""
    check_width(width)
    return is_query_within(width, value, MAX_NESTING)


def is_query_within(width, value, nesting):
    """Return whether the value is a query with at most so many queries nested."""
    if nesting == 0 or not has_kind(value):
        return False
    kind = value[0]
    if kind == "where":
        return is_condition(width, value[1]) and is_query_within(width, value[2], nesting - 1)
    if kind == "group":
        return is_column(width, value[1]) and is_query_within(width, value[2], nesting - 1)
    if kind == "union":
        parts = value[1]
        if not is_tuple_between(parts, 2, MAX_QUERIES):
            return False
        return all([is_query_within(width, part, nesting - 1) for part in parts])
    form = FORMS[kind]
    return form(width, value)


def has_kind(value):
    """Return whether the value is a tuple that begins with a kind and has as many parts as the kind."""
    if not isinstance(value, tuple) or not value or not isinstance(value[0], str):
        return False
    return LENGTHS.get(value[0], 0) == len(value)


def check_query(width, query):
    """Raise InvalidQuery if the value is not a query for the width."""
    if not is_query(width, query):
        raise InvalidQuery("not a query for this width")
