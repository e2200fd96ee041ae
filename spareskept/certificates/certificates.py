"""Certificates that decide whether the depth of a row is at most a budget."""

from spareskept.certificates.barriers import barrier_of, find_claimed, is_barrier_of
from spareskept.checks import is_tuple_between
from spareskept.depths.depths import is_exposure_of
from spareskept.depths.exposures import exposing_rows
from spareskept.rows.rowsets import cost_of, rows_named, sorted_names_of


def depth_certificate(rowset, query, name, *, budget=0):
    """Return a depth certificate for the named row."""
    row = find_claimed(rowset, query, name, budget)
    deleted = exposing_rows(rowset, query, row)
    if deleted is not None and cost_of(deleted) <= budget:
        return ("exposed", sorted_names_of(deleted))
    return ("hidden", barrier_of(rowset, query, row, budget))


def is_depth_certificate(rowset, query, name, value, *, budget=0):
    """Return whether the value is a depth certificate for the named row."""
    row = find_claimed(rowset, query, name, budget)
    if not is_tuple_between(value, 2, 2):
        return False
    word, content = value
    if word == "exposed":
        return is_exposure_of(rowset, query, row, content) and cost_of(rows_named(rowset, content)) <= budget
    return word == "hidden" and is_barrier_of(rowset, query, row, content, budget)
