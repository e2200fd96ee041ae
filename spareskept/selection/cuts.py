"""Cuts and flows of an edge among its lighter edges."""

from spareskept.checks import are_among, are_ascending_among, is_between, is_tuple_between
from spareskept.rows.orders import preceding_rows
from spareskept.rows.rowsets import COST, MAX_COST, NAME, cost_of, find_row, names_of
from spareskept.selection.forest import check_forest, nodes_of
from spareskept.selection.networks import fill_network, find_entries, make_arcs, make_rooms, split_flow


def find_edge(rowset, a, b, order, name):
    """Return the named edge and a list of its lighter rows."""
    check_forest(rowset, a, b, order)
    edge = find_row(rowset, name)
    return edge, preceding_rows(rowset, order, edge)


def is_loop(edge, a, b):
    """Return whether the edge joins a node to itself."""
    start, goal = nodes_of(edge, a, b)
    return start == goal


def minimum_cut(rowset, a, b, order, name):
    """Return a pair (cost, names) with a minimum cut, or None if the edge joins a node to itself."""
    edge, lighter = find_edge(rowset, a, b, order, name)
    if is_loop(edge, a, b):
        return None
    cut = cheapest_cut(edge, lighter, a, b)
    return (cost_of(cut), names_of(cut))


def cheapest_cut(edge, lighter, a, b):
    """Return a list of the rows of a minimum cut of the edge, which joins two different nodes."""
    start, goal = nodes_of(edge, a, b)
    arcs = make_arcs(lighter, a, b)
    left = fill_network(arcs, make_rooms(lighter), start, goal)
    entries = find_entries(arcs, left, start)
    # No room is left on the edges that lead out of reach, so they cost as much as passes.
    return [row for row in lighter if is_border(row, a, b, entries)]


def is_border(row, a, b, entries):
    """Return whether exactly one node of the edge is in reach."""
    start, end = nodes_of(row, a, b)
    return (start in entries) != (end in entries)


def maximum_flow(rowset, a, b, order, name):
    """Return a maximum flow, or None if the edge joins a node to itself."""
    edge, lighter = find_edge(rowset, a, b, order, name)
    return None if is_loop(edge, a, b) else greatest_flow(edge, lighter, a, b)


def greatest_flow(edge, lighter, a, b):
    """Return a maximum flow of the edge, which joins two different nodes."""
    start, goal = nodes_of(edge, a, b)
    arcs = make_arcs(lighter, a, b)
    rooms = make_rooms(lighter)
    left = fill_network(arcs, rooms, start, goal)
    # An arc whose room has grown carries nothing: its counterpart does.
    flows = [max(0, before - after) for before, after in zip(rooms, left)]
    return split_flow(arcs, flows, start, goal)


def is_cut(rowset, a, b, order, name, value):
    """Return whether the value is a cut of the edge."""
    edge, lighter = find_edge(rowset, a, b, order, name)
    if is_loop(edge, a, b) or not are_ascending_among(names_of(lighter), value):
        return False
    others = [row for row in lighter if row[NAME] not in value]
    start, goal = nodes_of(edge, a, b)
    return goal not in find_entries(make_arcs(others, a, b), make_rooms(others), start)


def is_flow(rowset, a, b, order, name, value):
    """Return whether the value is a flow of the edge."""
    edge, lighter = find_edge(rowset, a, b, order, name)
    return not is_loop(edge, a, b) and is_flow_among(edge, lighter, a, b, value)


def is_flow_among(edge, lighter, a, b, value):
    """Return whether the value is a flow of the edge, which joins two different nodes."""
    if not isinstance(value, tuple):
        return False
    ends = {row[NAME]: nodes_of(row, a, b) for row in lighter}
    if not all([is_flow_pair(ends, pair) and is_path(ends, pair[1], nodes_of(edge, a, b)) for pair in value]):
        return False
    return all([used_amount(value, row[NAME]) <= row[COST] for row in lighter])


def is_flow_pair(ends, value):
    """Return whether the value is a pair of an amount and a tuple of names of the edges with these ends."""
    if not is_tuple_between(value, 2, 2):
        return False
    # An edge cannot be used beyond its cost, so a greater amount is never part of a flow.
    return is_between(value[0], 1, MAX_COST) and are_among(list(ends), value[1])


def is_path(ends, names, nodes):
    """Return whether the named edges lead from the first node to the second one without a node twice."""
    start, goal = nodes
    visited = [start]
    for name in names:
        if visited[-1] not in ends[name]:
            return False
        first, second = ends[name]
        visited.append(second if first == visited[-1] else first)
    return visited[-1] == goal and len(set(visited)) == len(visited)


def used_amount(flow, name):
    """Return how much the pairs of the flow send along the edge."""
    return sum([amount for amount, names in flow if name in names])


def value_of(flow):
    """Return the value of the flow."""
    return sum([amount for amount, _ in flow])
