"""The choice tables of queries."""

from spareskept.errors import InvalidRowset, TooMany
from spareskept.queries.forms import check_query
from spareskept.queries.select import chosen_names
from spareskept.rows.rowsets import names_of, rows_named, rowset_width
from spareskept.tables.tables import MAX_NAMES, nonempty_sets


def choice_table(rowset, query, *, inner=None):
    """Return the table of what the query selects from each subset, or from what the inner query selects there."""
    width = rowset_width(rowset)
    check_query(width, query)
    if len(rowset) > MAX_NAMES:
        raise TooMany(MAX_NAMES)
    if not rowset:
        raise InvalidRowset("a table has at least one name")
    if inner is None:
        sets = nonempty_sets(rowset)
    else:
        check_query(width, inner)
        sets = [rows_named(rows, chosen_names(rows, inner)) for rows in nonempty_sets(rowset)]
    return (names_of(rowset), tuple([chosen_names(rows, query) for rows in sets]))
