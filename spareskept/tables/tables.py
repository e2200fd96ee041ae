"""Choice tables: what is selected from each set of a few names."""

from spareskept.checks import are_ascending_among, check_among, is_ascending, is_tuple_between
from spareskept.errors import InvalidTable
from spareskept.rows.rowsets import is_name

MAX_NAMES = 6


def are_table_names(value):
    """Return whether the value is the names of a table."""
    if not is_tuple_between(value, 1, MAX_NAMES):
        return False
    return all([is_name(name) for name in value]) and is_ascending(value)


def is_table(value):
    """Return whether the value is a table."""
    if not is_tuple_between(value, 2, 2) or not are_table_names(value[0]):
        return False
    sets = nonempty_sets(value[0])
    if not is_tuple_between(value[1], len(sets), len(sets)):
        return False
    return all([are_ascending_among(names, choice) for names, choice in zip(sets, value[1])])


def check_table(table):
    """Raise InvalidTable if the value is not a table."""
    if not is_table(table):
        raise InvalidTable("not a table")


def members_of(parts, number):
    """Return the parts of the set with this number, in their order."""
    return tuple([part for index, part in enumerate(parts) if number >> index & 1])


def nonempty_sets(parts):
    """Return a list of the nonempty sets of the parts, by their numbers from 1."""
    return [members_of(parts, number) for number in range(1, 1 << len(parts))]


def number_of(names, chosen):
    """Return the number of the set of the chosen names among the names."""
    return sum([1 << index for index, name in enumerate(names) if name in chosen])


def table_choice(table, names):
    """Return the names that are selected from the set of the given names, in ascending order."""
    check_table(table)
    check_among(table[0], names)
    return choice_of(table, names)


def choice_of(table, names):
    """Return the selection of a valid table from the set of those of the given names that occur in it."""
    number = number_of(table[0], names)
    return table[1][number - 1] if number else ()


def find_violation(table):
    """Return a violation as a pair (larger, smaller) of sets, or None if there is none."""
    check_table(table)
    selections = selections_of(table)
    for larger in range(len(selections)):
        for smaller in range(larger):
            if larger | smaller == larger and is_broken(selections, larger, smaller):
                return (members_of(table[0], larger), members_of(table[0], smaller))
    return None


def selections_of(table):
    """Return a list of the numbers of the sets that are selected, by the numbers of the sets from 0."""
    return [0] + [number_of(table[0], choice) for choice in table[1]]


def is_broken(selections, larger, smaller):
    """Return whether two sets, given by their numbers, the smaller one a part of the larger one, are a violation."""
    kept = selections[larger] & smaller
    if selections[smaller] | kept != selections[smaller]:
        return True
    return kept == selections[larger] and kept != selections[smaller]


def is_violation(table, value):
    """Return whether the value is a violation of the table."""
    check_table(table)
    if not is_tuple_between(value, 2, 2):
        return False
    larger, smaller = value
    if not are_ascending_among(table[0], larger) or not are_ascending_among(larger, smaller):
        return False
    return is_broken(selections_of(table), number_of(table[0], larger), number_of(table[0], smaller))


def is_path_independent(value):
    """Return whether the value is a table without a violation."""
    return is_table(value) and find_violation(value) is None


def selectable_names(table):
    """Return the selectable names in ascending order."""
    check_table(table)
    return tuple([name for name in table[0] if choice_of(table, (name,))])
