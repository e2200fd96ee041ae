"""Kernels: the rows that must be kept for a budget."""

from spareskept.checks import check_between
from spareskept.depths.depths import depth_of
from spareskept.queries.forms import check_query
from spareskept.rows.rowsets import rowset_width

MAX_BUDGET = 10 ** 9


def check_budget(budget):
    """Raise InvalidNumber if the value is not a budget."""
    check_between(budget, 0, MAX_BUDGET)


def kernel_rows(rowset, query, *, budget=0):
    """Return the kernel of the rowset for the query and the budget."""
    check_query(rowset_width(rowset), query)
    check_budget(budget)
    return tuple([row for row in rowset if is_within(depth_of(rowset, query, row), budget)])


def is_within(depth, budget):
    """Return whether the depth, an integer or None, is at most the budget."""
    return depth is not None and depth <= budget
