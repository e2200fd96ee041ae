"""The cheapest way to bring a row into the capped top rows."""

from spareskept.rows.orders import preceding_rows
from spareskept.rows.rowsets import VALUES, by_falling_cost, cost_of
from spareskept.selection.top import groups_of


def expose_capped(rowset, query, row):
    """Return a cheapest list of rows whose deletion brings the row into the capped top rows."""
    _, order, count, column, cap = query
    groups = groups_of(preceding_rows(rowset, order, row), column)
    # The rows that remain take a number of places. For each number that leaves one for the row, keep
    # the cheapest deletion.
    best = {0: (0, [])}
    for value, group in groups.items():
        ways = ways_to_thin(group, cap, value == row[VALUES][column])
        best = cheapest_ways(best, ways, count - 1)
    return min(list(best.values()))[1]


def ways_to_thin(group, cap, is_own):
    """Return triples (places, cost, deleted rows), one for each deletion from the group that may be worth its cost."""
    rows = by_falling_cost(group)
    places = range(min(cap, len(rows) + 1))
    ways = [(kept, cost_of(rows[kept:]), rows[kept:]) for kept in places]
    # Rows beyond the cap take no place, but in its own group they would leave none for the row.
    if len(rows) >= cap and not is_own:
        ways.append((cap, 0, []))
    return ways


def cheapest_ways(best, ways, most):
    """Return the best deletions, each joined with one of the ways so that at most so many places are taken."""
    joined = {}
    for taken, (cost, rows) in best.items():
        for places, extra, more in ways:
            total = taken + places
            way = (cost + extra, rows + more)
            if total <= most and (total not in joined or way < joined[total]):
                joined[total] = way
    return joined
