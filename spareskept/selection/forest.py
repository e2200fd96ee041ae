"""The forest of a rowset whose rows are edges."""

from spareskept.checks import check_columns
from spareskept.rows.orders import check_order, preceding_rows, sorted_rows
from spareskept.rows.rowsets import VALUES, find_row, names_of, rowset_width, sorted_names_of


def check_forest(rowset, a, b, order):
    """Raise an error if the rowset, one of its two columns or the order is not valid."""
    width = rowset_width(rowset)
    check_columns(width, a, b)
    check_order(width, order)


def nodes_of(row, a, b):
    """Return the two nodes of the edge."""
    return (row[VALUES][a], row[VALUES][b])


def forest_names(rowset, a, b, order):
    """Return the names of the edges of the forest in ascending order."""
    check_forest(rowset, a, b, order)
    return sorted_names_of(forest_rows(rowset, a, b, order))


def forest_rows(rowset, a, b, order):
    """Return a list of the edges of the forest."""
    # Two nodes are connected by the edges taken exactly if they have the same label.
    labels = {node: node for row in rowset for node in nodes_of(row, a, b)}
    taken = []
    for row in sorted_rows(rowset, order):
        start, end = nodes_of(row, a, b)
        if labels[start] != labels[end]:
            taken.append(row)
            labels = replace_label(labels, labels[end], labels[start])
    return taken


def replace_label(labels, old, new):
    """Return the labels with the old one replaced by the new one everywhere."""
    return {node: new if labels[node] == old else labels[node] for node in labels}


def lighter_edges(rowset, a, b, order, name):
    """Return the names of all lighter edges in ascending order."""
    check_forest(rowset, a, b, order)
    return names_of(preceding_rows(rowset, order, find_row(rowset, name)))
