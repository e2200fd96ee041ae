"""What a query selects."""

from spareskept.queries.forms import check_query
from spareskept.rows.rowsets import names_of, remove_rows, rowset_width, sorted_names_of
from spareskept.selection.forest import forest_rows
from spareskept.selection.hull import hull_rows
from spareskept.selection.skyline import skyline_rows
from spareskept.selection.top import capped_top_rows, groups_of, matching_rows, top_rows
from spareskept.tables.tables import choice_of


def choose_top(rowset, query):
    """Return the names that a query for top rows selects."""
    return sorted_names_of(top_rows(rowset, query[1], query[2]))


def choose_capped(rowset, query):
    """Return the names that a query for capped top rows selects."""
    _, order, count, column, cap = query
    return sorted_names_of(capped_top_rows(rowset, order, count, column, cap))


def choose_skyline(rowset, query):
    """Return the names that a query for the skyline selects."""
    return sorted_names_of(skyline_rows(rowset, query[1]))


def choose_hull(rowset, query):
    """Return the names that a query for the hull selects."""
    return sorted_names_of(hull_rows(rowset, query[1], query[2]))


def choose_forest(rowset, query):
    """Return the names that a query for the forest selects."""
    _, a, b, order = query
    return sorted_names_of(forest_rows(rowset, a, b, order))


def choose_listed(rowset, query):
    """Return the names that a query by a table selects."""
    return choice_of(query[1], names_of(rowset))


CHOICES = {
    "top": choose_top,
    "capped": choose_capped,
    "skyline": choose_skyline,
    "hull": choose_hull,
    "forest": choose_forest,
    "table": choose_listed,
}


def selected_names(rowset, query, *, deleted=()):
    """Return, in ascending order, the names that the query selects from the rowset without the deleted rows."""
    check_query(rowset_width(rowset), query)
    return chosen_names(remove_rows(rowset, deleted), query)


def chosen_names(rowset, query):
    """Return the names that a valid query selects from the rows, in ascending order."""
    kind = query[0]
    if kind == "where":
        return chosen_names(matching_rows(rowset, query[1]), query[2])
    if kind == "group":
        groups = groups_of(rowset, query[1])
        return united([chosen_names(group, query[2]) for group in groups.values()])
    if kind == "union":
        return united([chosen_names(rowset, part) for part in query[1]])
    choose = CHOICES[kind]
    return choose(rowset, query)


def united(selections):
    """Return, in ascending order, the names that belong to at least one of the selections."""
    return tuple(sorted({name for names in selections for name in names}))
