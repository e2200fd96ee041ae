"""How expensive it is to bring a row into what a query selects."""

from spareskept.checks import are_ascending_among
from spareskept.depths.exposures import exposing_rows
from spareskept.queries.forms import check_query
from spareskept.queries.select import chosen_names
from spareskept.rows.rowsets import NAME, cost_of, find_row, names_of, rows_not_named, rowset_width, sorted_names_of


def find_target(rowset, query, name):
    """Return the named row, or raise an error if the rowset, the query or the name is not valid."""
    check_query(rowset_width(rowset), query)
    return find_row(rowset, name)


def row_depth(rowset, query, name):
    """Return the depth of the named row."""
    return depth_of(rowset, query, find_target(rowset, query, name))


def depth_of(rowset, query, row):
    """Return the depth of the row for a valid query."""
    deleted = exposing_rows(rowset, query, row)
    return None if deleted is None else cost_of(deleted)


def row_depths(rowset, query):
    """Return a dict from each name, in ascending order, to its depth."""
    check_query(rowset_width(rowset), query)
    return {row[NAME]: depth_of(rowset, query, row) for row in rowset}


def cheapest_exposure(rowset, query, name):
    """Return a cheapest deletion set that exposes the named row, or None if there is none."""
    deleted = exposing_rows(rowset, query, find_target(rowset, query, name))
    return None if deleted is None else sorted_names_of(deleted)


def is_exposure(rowset, query, name, value):
    """Return whether the value is a deletion set that exposes the named row."""
    return is_exposure_of(rowset, query, find_target(rowset, query, name), value)


def is_exposure_of(rowset, query, row, value):
    """Return whether the value is a deletion set that exposes the row for a valid query."""
    # A set that names the row itself leaves nothing of it to select.
    if not are_ascending_among(names_of(rowset), value):
        return False
    return row[NAME] in chosen_names(rows_not_named(rowset, value), query)
