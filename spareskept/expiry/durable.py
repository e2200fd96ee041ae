"""What expires when, and the rows that must be kept until they do."""

from spareskept.checks import check_between
from spareskept.depths.depths import depth_of, find_target
from spareskept.depths.kernels import check_budget, is_within
from spareskept.queries.forms import check_query
from spareskept.queries.select import chosen_names
from spareskept.rows.rowsets import EXPIRY, check_names, check_rowset, find_row, rows_not_named, rowset_width

MAX_TIME = 10 ** 9


def check_time(now):
    """Raise InvalidNumber if the value is not a time."""
    check_between(now, 0, MAX_TIME)


def live_rows(rowset, now):
    """Return the rowset of the rows that are live at the time."""
    check_rowset(rowset)
    check_time(now)
    return rows_live_at(rowset, now)


def rows_live_at(rows, now):
    """Return a tuple of the rows that are live at the time."""
    return tuple([row for row in rows if row[EXPIRY] > now])


def surviving_rows(rowset, name):
    """Return the rowset of the rows that expire no earlier than the named one."""
    return survivors_of(rowset, find_row(rowset, name))


def survivors_of(rowset, row):
    """Return a tuple of the rows that expire no earlier than the row."""
    return rows_live_at(rowset, row[EXPIRY] - 1)


def final_depth(rowset, query, name):
    """Return the depth of the named row among the rows that survive it."""
    return last_depth_of(rowset, query, find_target(rowset, query, name))


def last_depth_of(rowset, query, row):
    """Return the depth of the row among the rows that survive it, for a valid query."""
    return depth_of(survivors_of(rowset, row), query, row)


def durable_kernel(rowset, query, *, budget=0):
    """Return the durable kernel of the rowset for the query and the budget."""
    check_query(rowset_width(rowset), query)
    check_budget(budget)
    return lasting_rows(rowset, query, budget)


def lasting_rows(rowset, query, budget):
    """Return a tuple of the rows of the durable kernel, for a valid query and budget."""
    return tuple([row for row in rowset if is_within(last_depth_of(rowset, query, row), budget)])


def times_of_change(rows):
    """Return an ascending list of time 0 and all later times at which one of the rows is no longer live."""
    return [0] + sorted({row[EXPIRY] for row in rows})


def depth_profile(rowset, query, name):
    """Return an ascending tuple of pairs (time, depth), one for each time at which the named row gets less deep."""
    return profile_of(rowset, query, find_target(rowset, query, name))


def profile_of(rowset, query, row):
    """Return the depth profile of the row for a valid query."""
    profile = []
    for time in times_of_change(rowset):
        if time < row[EXPIRY]:
            depth = depth_of(rows_live_at(rowset, time), query, row)
            if depth is not None and (not profile or depth < profile[-1][1]):
                profile.append((time, depth))
    return tuple(profile)


def entry_time(rowset, query, name, *, budget=0):
    """Return the first time at which the depth of the named row is within the budget, or None."""
    row = find_target(rowset, query, name)
    check_budget(budget)
    times = [time for time, depth in profile_of(rowset, query, row) if depth <= budget]
    return min(times, default=None)


def selection_starts(rowset, query, *, deleted=()):
    """Return ascending pairs (name, time): when each row that remains is first selected."""
    check_query(rowset_width(rowset), query)
    check_names(rowset, deleted)
    rest = rows_not_named(rowset, deleted)
    starts = {}
    for time in times_of_change(rest):
        for name in chosen_names(rows_live_at(rest, time), query):
            starts.setdefault(name, time)
    return tuple([(name, starts[name]) for name in sorted(starts)])
