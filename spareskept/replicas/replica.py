"""Replicas, which receive rows and deleted names in any order and any number of times."""

from spareskept.checks import is_ascending, is_tuple_between
from spareskept.depths.kernels import check_budget
from spareskept.errors import BudgetExceeded, InvalidMessage, InvalidRow, UnknownName
from spareskept.expiry.durable import check_time, lasting_rows, rows_live_at
from spareskept.queries.forms import check_query
from spareskept.queries.select import chosen_names
from spareskept.rows.rowsets import MAX_WIDTH, check_width, cost_of, is_name, is_row_of_width, is_rowset_of_width
from spareskept.rows.rowsets import rows_named, rows_not_named, union_rowsets


class Replica:
    """A query, the rows that answer it after the deletions that the budget allows, and the deleted names."""

    def __init__(self, query, budget, *, width=MAX_WIDTH):
        check_width(width)
        check_query(width, query)
        check_budget(budget)
        self._query = query
        self._width = width
        self._budget = budget
        self._rows = ()
        self._deleted = ()

    def rows(self):
        """Return the stored rows."""
        return self._rows

    def deleted(self):
        """Return the deleted names in ascending order."""
        return self._deleted

    def __len__(self):
        return len(self._rows)

    def __str__(self):
        return f"replica with {len(self._rows)} rows, {len(self._deleted)} deleted"

    def __eq__(self, other):
        if not isinstance(other, Replica):
            return False
        return self._setting() == other._setting() and self.message() == other.message()

    def _setting(self):
        """Return what replicas that exchange messages have in common."""
        return (self._query, self._width, self._budget)

    def receive(self, row):
        """Receive a row."""
        if not is_row_of_width(row, self._width):
            raise InvalidRow("not a row of this width")
        self._unite((row,), ())

    def receive_deletion(self, name):
        """Receive a deleted name."""
        if not is_name(name):
            raise UnknownName(name)
        self._unite((), (name,))

    def message(self):
        """Return the stored rows and the deleted names."""
        return (self._rows, self._deleted)

    def receive_message(self, message):
        """Receive all rows and deleted names of a message."""
        if not self._is_message(message):
            raise InvalidMessage("not a message for this width")
        rows, names = message
        self._unite(rows, names)

    def _is_message(self, value):
        """Return whether the value is a pair of a rowset of this width and an ascending tuple of names."""
        if not is_tuple_between(value, 2, 2):
            return False
        rows, names = value
        return is_rowset_of_width(rows, self._width) and are_ascending_names(names)

    def _unite(self, rows, names):
        """Receive the rows of a rowset and the deleted names."""
        united = union_rowsets((self._rows, rows))
        if united != self._rows:
            self._rows = lasting_rows(united, self._query, self._budget)
        self._deleted = tuple(sorted(set(self._deleted + names)))

    def deleted_cost(self, now):
        """Return the total cost of the stored rows that are live at the time and have a deleted name."""
        check_time(now)
        return cost_of(rows_named(rows_live_at(self._rows, now), self._deleted))

    def is_reliable(self, now):
        """Return whether the deleted cost at the time is at most the budget."""
        return self.deleted_cost(now) <= self._budget

    def select(self, now):
        """Return, in ascending order, the names selected from the stored rows that are live and not deleted."""
        cost = self.deleted_cost(now)
        if cost > self._budget:
            raise BudgetExceeded(cost)
        return chosen_names(rows_not_named(rows_live_at(self._rows, now), self._deleted), self._query)


def are_ascending_names(value):
    """Return whether the value is an ascending tuple of names."""
    return isinstance(value, tuple) and all([is_name(name) for name in value]) and is_ascending(value)
