"""Barriers: what shows that the depth of a row is greater than a budget, or None."""

from spareskept.checks import are_ascending_among, is_tuple_between
from spareskept.depths.depths import depth_of, find_target
from spareskept.depths.kernels import check_budget, is_within
from spareskept.queries.select import chosen_names
from spareskept.rows.orders import preceding_rows
from spareskept.rows.rowsets import NAME, names_of, rows_named
from spareskept.selection.cuts import greatest_flow, is_flow_among, value_of
from spareskept.selection.top import group_of, matching_rows

NEVER = ("never",)


def find_claimed(rowset, query, name, budget):
    """Return the named row, or raise an error if one of the arguments is not valid."""
    row = find_target(rowset, query, name)
    check_budget(budget)
    return row


def is_selectable(query, row):
    """Return whether the query selects the row from the rowset that contains only this row."""
    return row[NAME] in chosen_names((row,), query)


def other_names(rowset, row):
    """Return the names of the other rows of the rowset."""
    return names_of([other for other in rowset if other != row])


def find_barrier(rowset, query, name, *, budget=0):
    """Return a barrier for the named row, or None if its depth is at most the budget."""
    return barrier_of(rowset, query, find_claimed(rowset, query, name, budget), budget)


def barrier_of(rowset, query, row, budget):
    """Return a barrier for the row, or None if its depth is at most the budget."""
    if not is_selectable(query, row):
        return NEVER
    kind = query[0]
    if kind == "where":
        return barrier_of(matching_rows(rowset, query[1]), query[2], row, budget)
    if kind == "group":
        return barrier_of(group_of(rowset, query[1], row), query[2], row, budget)
    if kind == "union":
        barriers = [barrier_of(rowset, part, row, budget) for part in query[1]]
        return None if None in barriers else ("all", tuple(barriers))
    if is_within(depth_of(rowset, query, row), budget):
        return None
    if kind == "forest":
        _, a, b, order = query
        return ("flow", greatest_flow(row, preceding_rows(rowset, order, row), a, b))
    return ("rows", other_names(rowset, row))


def is_barrier(rowset, query, name, value, *, budget=0):
    """Return whether the value is a barrier for the named row."""
    return is_barrier_of(rowset, query, find_claimed(rowset, query, name, budget), value, budget)


def is_barrier_of(rowset, query, row, value, budget):
    """Return whether the value is a barrier for the row."""
    if not is_selectable(query, row):
        return value == NEVER
    kind = query[0]
    if kind == "where":
        return is_barrier_of(matching_rows(rowset, query[1]), query[2], row, value, budget)
    if kind == "group":
        return is_barrier_of(group_of(rowset, query[1], row), query[2], row, value, budget)
    if not is_tuple_between(value, 2, 2):
        return False
    word, content = value
    if kind == "union":
        return word == "all" and are_barriers_of(rowset, query[1], row, content, budget)
    if kind == "forest":
        return word == "flow" and is_flow_barrier(rowset, query, row, content, budget)
    return word == "rows" and is_rows_barrier(rowset, query, row, content, budget)


def are_barriers_of(rowset, queries, row, value, budget):
    """Return whether the value is a tuple of one barrier for each of the queries, in order."""
    if not is_tuple_between(value, len(queries), len(queries)):
        return False
    return all([is_barrier_of(rowset, query, row, part, budget) for query, part in zip(queries, value)])


def is_flow_barrier(rowset, query, row, value, budget):
    """Return whether the value is a flow of the edge whose value is greater than the budget."""
    _, a, b, order = query
    return is_flow_among(row, preceding_rows(rowset, order, row), a, b, value) and value_of(value) > budget


def is_rows_barrier(rowset, query, row, value, budget):
    """Return whether the value is names of other rows that alone keep the depth of the row above the budget."""
    if not are_ascending_among(other_names(rowset, row), value):
        return False
    return not is_within(depth_of(rows_named(rowset, value + (row[NAME],)), query, row), budget)
