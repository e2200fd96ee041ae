"""Outcomes: all that a query can select after the deletions that a budget allows."""

from spareskept.checks import are_ascending_among, is_ascending, is_tuple_between
from spareskept.depths.kernels import check_budget
from spareskept.errors import TooMany
from spareskept.queries.forms import check_query
from spareskept.queries.select import chosen_names
from spareskept.rows.rowsets import COST, NAME, cost_of, names_of, rows_named, rows_not_named, rowset_width

MAX_OUTCOMES = 400


def check_setting(rowset, query, budget):
    """Raise an error if one of the arguments is not valid."""
    check_query(rowset_width(rowset), query)
    check_budget(budget)


def possible_outcomes(rowset, query, *, budget=0):
    """Return an ascending tuple of pairs (outcome, least deletion set), one for each outcome."""
    check_setting(rowset, query, budget)
    found = outcomes_within(rowset, query, budget, MAX_OUTCOMES)
    if found is None:
        raise TooMany(MAX_OUTCOMES)
    return found


def outcomes_within(rowset, query, budget, limit):
    """Return all outcomes with their least deletion sets, or None if there are more than the limit."""
    # Sets that are obtained by deleting one selected row after another have different outcomes, so it
    # is enough to count the sets.
    outcomes = []
    waiting = [()]
    known = {(): True}
    while waiting and len(known) <= limit:
        deleted = waiting.pop()
        rest = rows_not_named(rowset, deleted)
        outcome = chosen_names(rest, query)
        outcomes.append((outcome, deleted))
        left = budget - cost_of(rows_named(rowset, deleted))
        for row in rows_named(rest, outcome):
            more = tuple(sorted(deleted + (row[NAME],)))
            if row[COST] <= left and more not in known:
                known[more] = True
                waiting.append(more)
    return None if len(known) > limit else tuple(sorted(outcomes))


def are_possible_outcomes(rowset, query, value, *, budget=0):
    """Return whether the value is the tuple of all outcomes with their least deletion sets."""
    check_setting(rowset, query, budget)
    known = names_of(rowset)
    # The search goes on as long as the value does, so a value that cannot be right is refused before.
    if not isinstance(value, tuple) or not all([is_outcome_among(known, pair) for pair in value]):
        return False
    return is_ascending(value) and outcomes_within(rowset, query, budget, len(value)) == value


def is_outcome_among(known, value):
    """Return whether the value is a pair of ascending tuples of known names."""
    return is_tuple_between(value, 2, 2) and all([are_ascending_among(known, part) for part in value])


def robust_names(rowset, query, *, budget=0):
    """Return, in ascending order, the names of the selected rows that cost more than the budget."""
    check_setting(rowset, query, budget)
    selected = rows_named(rowset, chosen_names(rowset, query))
    return names_of([row for row in selected if row[COST] > budget])
