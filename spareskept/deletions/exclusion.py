"""Exclusion sets: the least deletions after which none of some names is selected."""

from spareskept.queries.forms import check_query
from spareskept.queries.select import chosen_names
from spareskept.rows.rowsets import check_names, rows_not_named, rowset_width


def exclusion_set(rowset, query, names):
    """Return, in ascending order, the exclusion set of the names."""
    check_query(rowset_width(rowset), query)
    check_names(rowset, names)
    excluded = []
    found = names_found(rowset, query, names)
    while found:
        excluded = excluded + found
        found = names_found(rows_not_named(rowset, excluded), query, names)
    return tuple(sorted(excluded))


def names_found(rows, query, names):
    """Return a list of those of the names that the query selects from the rows."""
    return [name for name in chosen_names(rows, query) if name in names]
