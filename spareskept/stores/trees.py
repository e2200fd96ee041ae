"""Merge trees, and what tells two kernels apart."""

from spareskept.checks import are_ascending_among, is_between, is_tuple_between
from spareskept.depths.exposures import exposing_rows
from spareskept.depths.kernels import check_budget
from spareskept.errors import InvalidRowset, InvalidTree
from spareskept.expiry.durable import MAX_TIME, lasting_rows, rows_live_at, survivors_of
from spareskept.queries.forms import check_query
from spareskept.queries.select import chosen_names
from spareskept.rows.rowsets import EXPIRY, check_conflicts, check_rowset, cost_of, different_rows, have_one_width
from spareskept.rows.rowsets import have_union, is_rowset, names_of, rows_named, rows_not_named, sorted_names_of
from spareskept.rows.rowsets import width_of

MAX_HEIGHT = 6
MAX_CHILDREN = 4


def is_merge_tree(value):
    """Return whether the value is a merge tree."""
    return is_tree_within(value, MAX_HEIGHT) and have_union(leaf_rows(value))


def is_tree_within(value, height):
    """Return whether the value has the form of a merge tree of at most this height."""
    if height == 0 or not is_tuple_between(value, 2, 2):
        return False
    word, content = value
    if word == "leaf":
        return is_rowset(content)
    if word != "merge" or not is_tuple_between(content, 1, MAX_CHILDREN):
        return False
    return all([is_tree_within(child, height - 1) for child in content])


def leaf_rows(tree):
    """Return a list of the rows of all leaves; rows of several leaves repeat."""
    word, content = tree
    if word == "leaf":
        return list(content)
    return [row for child in content for row in leaf_rows(child)]


def tree_rows(tree):
    """Return the union of the rowsets of all leaves."""
    if not is_merge_tree(tree):
        raise InvalidTree("not a merge tree")
    return different_rows(leaf_rows(tree))


def check_tree(tree, query, budget):
    """Raise an error if one of the arguments is not valid."""
    check_query(width_of(tree_rows(tree)), query)
    check_budget(budget)


def root_kernel(tree, query, *, budget=0):
    """Return the kernel of the root."""
    check_tree(tree, query, budget)
    return node_kernels(tree, query, budget)[-1]


def transfer_count(tree, query, *, budget=0):
    """Return the total number of rows in the kernels of all nodes."""
    check_tree(tree, query, budget)
    return sum([len(kernel) for kernel in node_kernels(tree, query, budget)])


def node_kernels(tree, query, budget):
    """Return a list of the kernels of all nodes, that of the root at the end."""
    word, content = tree
    if word == "leaf":
        return [lasting_rows(content, query, budget)]
    below = [node_kernels(child, query, budget) for child in content]
    union = different_rows([row for kernels in below for row in kernels[-1]])
    return [kernel for kernels in below for kernel in kernels] + [lasting_rows(union, query, budget)]


def check_kernels(one, other, query, budget):
    """Raise an error if the rowsets are not two kernels for the query and the budget."""
    check_rowset(one)
    check_rowset(other)
    rows = one + other
    if not have_one_width(rows):
        raise InvalidRowset("the rowsets have different widths")
    check_query(width_of(rows), query)
    check_budget(budget)
    check_conflicts(rows)
    for rowset in (one, other):
        if lasting_rows(rowset, query, budget) != rowset:
            raise InvalidRowset("not its own durable kernel")


def find_distinction(one, other, query, *, budget=0):
    """Return a distinction of two kernels, or None if they are equal."""
    check_kernels(one, other, query, budget)
    for first, second in ((one, other), (other, one)):
        for row in first:
            if row not in second:
                # A row of a kernel is selected just before it expires, after some deletion within the
                # budget. The other kernel never selects it.
                deleted = exposing_rows(survivors_of(first, row), query, row)
                return (row[EXPIRY] - 1, sorted_names_of(deleted))
    return None


def is_distinction(one, other, query, value, *, budget=0):
    """Return whether the value is a distinction of two kernels, or None if they are equal."""
    check_kernels(one, other, query, budget)
    if one == other:
        return value is None
    if not is_tuple_between(value, 2, 2):
        return False
    now, names = value
    rows = different_rows(one + other)
    if not is_between(now, 0, MAX_TIME) or not are_ascending_among(names_of(rows), names):
        return False
    if cost_of(rows_named(rows, names)) > budget:
        return False
    return selected_later(one, query, now, names) != selected_later(other, query, now, names)


def selected_later(rowset, query, now, names):
    """Return the names that the query selects from the live rows at the time without the named ones."""
    return chosen_names(rows_not_named(rows_live_at(rowset, now), names), query)
