"""Queries, and what they select, computed in a plain way."""

from tests.test_forest import connected
from tests.test_hull import is_inside
from tests.test_skyline import dominates_reference
from tests.test_tables import ordered, set_of
from tests.values import cost_of, name_of, random_rowset, subsets

NAMES = tuple(name_of(number) for number in range(6))


def order_key(order):
    """Return the key by which rows are sorted for an order."""
    return lambda row: ([{'asc': 1, 'desc': -1}[way] * row[2][column] for column, way in order], row[0])


def plain_condition(row, condition):
    """Return whether the row satisfies the condition in the words of 2.2."""
    if condition[0] in ('ge', 'le', 'eq'):
        value = row[2][condition[1]]
        return {'ge': value >= condition[2], 'le': value <= condition[2], 'eq': value == condition[2]}[condition[0]]
    if condition[0] == 'not':
        return not plain_condition(row, condition[1])
    return {'and': all, 'or': any}[condition[0]](plain_condition(row, part) for part in condition[1])


def plain_top(rowset, order, count):
    return sorted(rowset, key=order_key(order))[:count]


def plain_capped(rowset, order, count, column, cap):
    taken = []
    for row in sorted(rowset, key=order_key(order)):
        if len(taken) < count and sum(other[2][column] == row[2][column] for other in taken) < cap:
            taken.append(row)
    return taken


def plain_where(rowset, condition, query):
    return plain_rows([row for row in rowset if plain_condition(row, condition)], query)


def plain_group(rowset, column, query):
    values = {row[2][column] for row in rowset}
    return [row for value in values for row in plain_rows([row for row in rowset if row[2][column] == value], query)]


def plain_skyline(rowset, margins):
    return [row for row in rowset if not any(dominates_reference(margins, other, row) for other in rowset)]


def plain_hull(rowset, x, y):
    points = {}
    for row in sorted(rowset):
        points.setdefault((row[2][x], row[2][y]), row)
    return [row for point, row in points.items() if not is_inside(point, [other for other in points if other != point])]


def plain_forest(rowset, a, b, order):
    taken = []
    for row in sorted(rowset, key=order_key(order)):
        if not connected(taken, a, b, row[2][a], row[2][b]):
            taken.append(row)
    return taken


def plain_union(rowset, queries):
    return [row for query in queries for row in plain_rows(rowset, query)]


def plain_table(rowset, table):
    known = tuple(name for name in table[0] if name in {row[0] for row in rowset})
    chosen = {set_of(table[0], number): choice for number, choice in enumerate(table[1], 1)}.get(known, ())
    return [row for row in rowset if row[0] in chosen]


PLAIN = {
    'top': plain_top, 'capped': plain_capped, 'where': plain_where, 'group': plain_group, 'skyline': plain_skyline,
    'hull': plain_hull, 'forest': plain_forest, 'union': plain_union, 'table': plain_table,
}


def plain_rows(rowset, query):
    return PLAIN[query[0]](rowset, *query[1:])


def plain_names(rowset, query):
    """Return the names that the query selects in the words of 8.1."""
    return tuple(sorted({row[0] for row in plain_rows(rowset, query)}))


BLOCK = ordered(NAMES, (NAMES, NAMES[::-1], ('ac', 'ae', 'aa', 'af', 'ad', 'ab')))
FEW = ordered(('aa', 'ac', 'ad', 'zoe'), (('ad', 'aa', 'ac'), ('ac', 'ad', 'aa')))
NOBODY = (('aa', 'ab'), ((), (), ()))

# Queries without inner queries, for a width of 2.
TOPS = (('top', (), 1), ('top', ((0, 'asc'),), 2), ('top', ((1, 'desc'), (0, 'asc')), 3), ('top', ((0, 'desc'),), 9))
CAPPED = (
    ('capped', (), 3, 0, 1), ('capped', ((1, 'desc'),), 3, 0, 2), ('capped', ((0, 'asc'), (1, 'desc')), 2, 1, 1),
    ('capped', ((0, 'desc'),), 2, 1, 2), ('capped', ((1, 'asc'),), 1, 0, 3), ('capped', (), 9, 1, 2),
    ('capped', (), 9, 0, 9), ('capped', ((0, 'asc'),), 4, 0, 1),
)
SKYLINES = (
    ('skyline', ((0, 'asc', 0), (1, 'asc', 0))), ('skyline', ((0, 'desc', 1), (1, 'asc', 0))),
    ('skyline', ((1, 'desc', 2),)), ('skyline', ((1, 'asc', 1), (0, 'asc', 2))),
)
HULLS = (('hull', 0, 1), ('hull', 1, 0))
FORESTS = (('forest', 0, 1, ()), ('forest', 1, 0, ((0, 'desc'),)), ('forest', 0, 1, ((1, 'asc'), (0, 'asc'))))
TABLES = (('table', BLOCK), ('table', FEW), ('table', NOBODY))
LEAVES = TOPS + CAPPED + SKYLINES + HULLS + FORESTS + TABLES

SMALL = ('le', 0, 1)
MOST = ('or', (('ge', 0, 1), ('not', ('eq', 1, 0))))
MIXED = ('union', (TOPS[0], SKYLINES[1], FORESTS[1], TABLES[1]))
NESTED = (
    ('where', SMALL, TOPS[1]), ('where', MOST, CAPPED[1]), ('where', SMALL, HULLS[0]), ('where', MOST, FORESTS[0]),
    ('where', SMALL, SKYLINES[0]), ('where', MOST, TABLES[0]), ('where', ('ge', 0, 9), TOPS[3]),
    ('group', 0, TOPS[0]), ('group', 1, CAPPED[0]), ('group', 1, SKYLINES[2]), ('group', 0, HULLS[0]),
    ('group', 1, FORESTS[1]), ('group', 0, TABLES[0]), ('group', 1, ('where', SMALL, TOPS[2])),
    ('union', (TOPS[1], TOPS[1])), ('union', (SKYLINES[0], HULLS[1], CAPPED[2])), MIXED,
    ('union', (TABLES[2], ('where', ('ge', 0, 9), TOPS[0]))), ('union', (FORESTS[0], FORESTS[1])),
    ('where', MOST, ('group', 0, MIXED)), ('group', 0, ('union', (('where', SMALL, CAPPED[4]), SKYLINES[0]))),
    ('union', (('group', 1, ('where', SMALL, FORESTS[2])), ('union', (TABLES[0], ('group', 0, HULLS[0]))))),
)
QUERIES = LEAVES + NESTED

MANY = ('union', (
    ('group', 0, ('capped', ((1, 'desc'),), 9, 0, 9)), ('where', ('ge', 1, 1), ('capped', ((0, 'asc'),), 9, 1, 9)),
    ('union', (('hull', 0, 1), ('forest', 0, 1, ((1, 'desc'),)), ('group', 1, ('hull', 0, 1)))),
    ('where', ('not', ('eq', 0, 3)), ('union', (('skyline', ((0, 'asc', 1), (1, 'asc', 1))), ('table', BLOCK))))))
LARGE = (
    ('top', ((1, 'asc'), (0, 'desc')), 9), ('capped', ((0, 'asc'), (1, 'desc')), 9, 1, 9), ('capped', (), 9, 0, 9),
    ('capped', ((1, 'desc'),), 9, 0, 1), ('skyline', ((0, 'desc', 0), (1, 'asc', 2))), ('hull', 0, 1),
    ('forest', 0, 1, ((1, 'desc'),)), ('table', BLOCK), MANY,
    ('where', ('not', ('eq', 0, 2)), ('capped', ((0, 'desc'),), 9, 1, 9)),
    ('group', 1, ('capped', ((0, 'asc'),), 9, 0, 1)),
)


def plain_selections(rowset, query):
    """Return a dict from each tuple of kept rows to what the query selects from them."""
    return {kept: plain_names(kept, query) for kept in subsets(rowset)}


def plain_depths(rowset, query):
    """Return a dict from each name to the depth of its row, found by trying every set of other rows."""
    whole = cost_of(rowset)
    depths = dict.fromkeys([row[0] for row in rowset])
    for kept, names in plain_selections(rowset, query).items():
        cost = whole - cost_of(kept)
        for name in names:
            if depths[name] is None or cost < depths[name]:
                depths[name] = cost
    return depths


def small_rowsets(query, count):
    """Return a few rowsets with so many rows: equal, small and large costs, many equal values and few."""
    seeds = 1 + QUERIES.index(query)
    return (
        random_rowset(seeds, count, 2, high=1, cost=1), random_rowset(seeds, count, 2, high=2, cost=3),
        random_rowset(seeds, count, 2, high=3, cost=10 ** 6),
    )


def expiring_rowsets(query, count):
    """Return a few rowsets with so many rows that expire at different times, some of them at one time."""
    seeds = 1 + QUERIES.index(query)
    return (
        random_rowset(seeds, count, 2, high=1, cost=2, expiry=3),
        random_rowset(seeds, count, 2, high=2, cost=3, expiry=6),
        random_rowset(seeds, count, 2, high=3, cost=10 ** 6, expiry=10 ** 9),
    )


def live_at(rowset, now):
    """Return the rows of the rowset that are live at the time."""
    return tuple(row for row in rowset if row[3] > now)


def times_of(rowset):
    """Return times at which other rows are live than at any other one, with some just before and after them."""
    return sorted({0, 10 ** 9} | {time for row in rowset for time in (row[3] - 1, row[3])})


def plain_durable(rowset, query, budget):
    """Return the rows that are selected at some time after some deletion within the budget."""
    found = set()
    for now in times_of(rowset):
        depths = plain_depths(live_at(rowset, now), query)
        found.update(name for name, depth in depths.items() if depth is not None and depth <= budget)
    return tuple(row for row in rowset if row[0] in found)
