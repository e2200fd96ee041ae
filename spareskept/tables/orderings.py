"""Orderings of a table: from each set, the names that come first in one of them are selected."""

from spareskept.checks import are_ascending_among
from spareskept.errors import InvalidTable
from spareskept.tables.tables import are_table_names, check_table, choice_of, find_violation, nonempty_sets
from spareskept.tables.tables import selectable_names


def find_orderings(table):
    """Return orderings of the table, or None if it has a violation."""
    if find_violation(table) is not None:
        return None
    names = selectable_names(table)
    orderings = [()]
    for _ in names:
        orderings = longer_orderings(table, names, orderings)
    return tuple(orderings) if names else ()


def longer_orderings(table, names, orderings):
    """Return the orderings, each with one more name, in every way that the table allows."""
    # A name may come next if it is selected from the names that do not come before it. It is then
    # selected from every set without the names before it, and each name that is selected from a set
    # can come next after some names outside of the set.
    longer = []
    for ordering in orderings:
        rest = [name for name in names if name not in ordering]
        longer += [ordering + (name,) for name in choice_of(table, rest)]
    return longer


def are_orderings(table, value):
    """Return whether the value is orderings of the table."""
    check_table(table)
    if not are_arrangements(selectable_names(table), value):
        return False
    return ordered_table(table[0], value) == table


def are_arrangements(names, value):
    """Return whether the value is a tuple of distinct tuples of all the names, () exactly if there are none."""
    if not isinstance(value, tuple) or not all([is_arrangement(names, part) for part in value]):
        return False
    return len(set(value)) == len(value) and (value == ()) == (names == ())


def is_arrangement(names, value):
    """Return whether the value is a tuple that contains each of the names once and nothing else."""
    if not isinstance(value, tuple) or len(value) != len(names):
        return False
    return all([name in value for name in names])


def table_from_orderings(names, selectable, orderings):
    """Return the table with these names, these selectable names and these orderings."""
    if not are_table_names(names):
        raise InvalidTable("not an ascending tuple of one to six names")
    if not are_ascending_among(names, selectable):
        raise InvalidTable("not an ascending tuple of some of the names")
    if not are_arrangements(selectable, orderings):
        raise InvalidTable("not orderings of the selectable names")
    return ordered_table(names, orderings)


def ordered_table(names, orderings):
    """Return the table with these names in which the orderings tell what is selected."""
    return (names, tuple([first_names(orderings, chosen) for chosen in nonempty_sets(names)]))


def first_names(orderings, chosen):
    """Return, in ascending order, those of the chosen names that come first in one of the orderings."""
    found = {}
    for ordering in orderings:
        members = [name for name in ordering if name in chosen]
        if members:
            found[members[0]] = True
    return tuple(sorted(found))
