"""Cuts and flows of an edge among its lighter edges."""

from spareskept.checks import is_ascending, is_between, is_tuple_between
from spareskept.rows.rowsets import COST, MAX_COST, NAME, find_row, names_of
from spareskept.selection.forest import check_forest, lighter_rows, nodes_of
from spareskept.selection.networks import fill_network, find_entries, make_arcs, make_rooms, split_flow


def find_edge(rowset, a, b, order, name):
    """Return the two nodes of the named edge and a list of its lighter rows."""
    check_forest(rowset, a, b, order)
    edge = find_row(rowset, name)
    return nodes_of(edge, a, b), lighter_rows(rowset, order, edge)


def minimum_cut(rowset, a, b, order, name):
    """Return a pair (cost, names) with a minimum cut, or None if the edge joins a node to itself."""
    (start, goal), lighter = find_edge(rowset, a, b, order, name)
    if start == goal:
        return None
    arcs = make_arcs(lighter, a, b)
    left = fill_network(arcs, make_rooms(lighter), start, goal)
    entries = find_entries(arcs, left, start)
    # No room is left on the edges that lead out of reach, so they cost as much as passes.
    cut = [row for row in lighter if is_border(row, a, b, entries)]
    return (sum([row[COST] for row in cut]), names_of(cut))


def is_border(row, a, b, entries):
    """Return whether exactly one node of the edge is in reach."""
    start, end = nodes_of(row, a, b)
    return (start in entries) != (end in entries)


def maximum_flow(rowset, a, b, order, name):
    """Return a maximum flow, or None if the edge joins a node to itself."""
    (start, goal), lighter = find_edge(rowset, a, b, order, name)
    if start == goal:
        return None
    arcs = make_arcs(lighter, a, b)
    rooms = make_rooms(lighter)
    left = fill_network(arcs, rooms, start, goal)
    # An arc whose room has grown carries nothing: its counterpart does.
    flows = [max(0, before - after) for before, after in zip(rooms, left)]
    return split_flow(arcs, flows, start, goal)


def is_cut(rowset, a, b, order, name, value):
    """Return whether the value is a cut of the edge."""
    (start, goal), lighter = find_edge(rowset, a, b, order, name)
    if start == goal or not are_names_among(lighter, value) or not is_ascending(value):
        return False
    others = [row for row in lighter if row[NAME] not in value]
    return goal not in find_entries(make_arcs(others, a, b), make_rooms(others), start)


def are_names_among(rows, value):
    """Return whether the value is a tuple of names of the rows."""
    known = names_of(rows)
    return isinstance(value, tuple) and all([name in known for name in value])


def is_flow(rowset, a, b, order, name, value):
    """Return whether the value is a flow of the edge."""
    (start, goal), lighter = find_edge(rowset, a, b, order, name)
    if start == goal or not isinstance(value, tuple):
        return False
    edges = {row[NAME]: nodes_of(row, a, b) for row in lighter}
    if not all([is_flow_pair(lighter, pair) and is_path(edges, pair[1], start, goal) for pair in value]):
        return False
    return all([used_amount(value, row[NAME]) <= row[COST] for row in lighter])


def is_flow_pair(lighter, value):
    """Return whether the value is a pair of an amount and a tuple of names of lighter edges."""
    if not is_tuple_between(value, 2, 2):
        return False
    # An edge cannot be used beyond its cost, so a greater amount is never part of a flow.
    return is_between(value[0], 1, MAX_COST) and are_names_among(lighter, value[1])


def is_path(edges, names, start, goal):
    """Return whether the named edges lead from the start to the goal without a node twice."""
    visited = [start]
    for name in names:
        if visited[-1] not in edges[name]:
            return False
        first, second = edges[name]
        visited.append(second if first == visited[-1] else first)
    return visited[-1] == goal and len(set(visited)) == len(visited)


def used_amount(flow, name):
    """Return how much the pairs of the flow send along the edge."""
    return sum([amount for amount, names in flow if name in names])
