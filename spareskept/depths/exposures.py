"""The cheapest deletions that bring a row into what a query selects.

Each function returns a list of rows to delete, or None if no deletion brings the row into the selection.
"""

from spareskept.depths.capped import expose_capped
from spareskept.rows.conditions import holds
from spareskept.rows.orders import preceding_rows
from spareskept.rows.rowsets import NAME, VALUES, by_falling_cost, cost_of, names_of
from spareskept.selection.cuts import cheapest_cut, is_loop
from spareskept.selection.hull import best_direction, blocking_rows
from spareskept.selection.skyline import better_rows
from spareskept.selection.top import group_of, matching_rows
from spareskept.tables.tables import choice_of, members_of


def expose_top(rowset, query, row):
    """Return a cheapest list of rows whose deletion brings the row into the top rows."""
    _, order, count = query
    return by_falling_cost(preceding_rows(rowset, order, row))[count - 1:]


def expose_skyline(rowset, query, row):
    """Return the list of rows whose deletion brings the row into the skyline."""
    return better_rows(rowset, query[1], row)


def expose_hull(rowset, query, row):
    """Return a cheapest list of rows whose deletion makes the row a hull row."""
    _, x, y = query
    direction = best_direction(rowset, x, y, row)[1]
    return blocking_rows(rowset, x, y, row, direction)


def expose_forest(rowset, query, row):
    """Return a cheapest list of rows whose deletion brings the edge into the forest, or None for a loop."""
    _, a, b, order = query
    if is_loop(row, a, b):
        return None
    return cheapest_cut(row, preceding_rows(rowset, order, row), a, b)


def expose_listed(rowset, query, row):
    """Return a cheapest list of rows whose deletion lets the table select the row, or None if it never does."""
    table = query[1]
    name = row[NAME]
    if not choice_of(table, (name,)):
        return None
    others = [other for other in rowset if other[NAME] in table[0] and other != row]
    sets = [members_of(others, number) for number in range(1 << len(others))]
    kept = max([part for part in sets if name in choice_of(table, names_of(part) + (name,))], key=cost_of)
    return [other for other in others if other not in kept]


EXPOSURES = {
    "top": expose_top,
    "skyline": expose_skyline,
    "hull": expose_hull,
    "forest": expose_forest,
    "table": expose_listed,
}


def exposing_rows(rowset, query, row):
    """Return a cheapest list of rows whose deletion lets the query select the row, or None if there is none."""
    kind = query[0]
    if kind == "where":
        if not holds(row[VALUES], query[1]):
            return None
        return exposing_rows(matching_rows(rowset, query[1]), query[2], row)
    if kind == "group":
        return exposing_rows(group_of(rowset, query[1], row), query[2], row)
    if kind == "union":
        found = [exposing_rows(rowset, part, row) for part in query[1]]
        return min([rows for rows in found if rows is not None], key=cost_of, default=None)
    if kind == "capped":
        return expose_capped(rowset, query, row)
    expose = EXPOSURES[kind]
    return expose(rowset, query, row)
