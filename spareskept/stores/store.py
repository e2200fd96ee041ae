"""Stores that keep only the rows that later selections may need."""

from spareskept.checks import check_between
from spareskept.depths.kernels import check_budget
from spareskept.errors import BudgetExceeded, InvalidRow, InvalidRowset, InvalidStore
from spareskept.errors import NameConflict, TooMany, UnknownName
from spareskept.expiry.durable import MAX_TIME, check_time, lasting_rows, rows_live_at
from spareskept.queries.forms import check_query
from spareskept.queries.select import chosen_names
from spareskept.rows.rowsets import COST, EXPIRY, MAX_ROWS, MAX_WIDTH, NAME
from spareskept.rows.rowsets import check_names, check_width, cost_of, is_name, is_row_of_width, is_rowset_of_width
from spareskept.rows.rowsets import rows_named, rows_not_named, union_rowsets


class KernelStore:
    """A query, and the rows that answer it after every deletion that the remaining budget allows."""

    def __init__(self, query, budget, *, width=MAX_WIDTH, rowset=(), now=0):
        check_width(width)
        check_query(width, query)
        check_budget(budget)
        if not is_rowset_of_width(rowset, width):
            raise InvalidRowset("not a rowset of this width")
        check_time(now)
        self._query = query
        self._width = width
        self._budget = budget
        self._now = now
        self._rows = lasting_rows(rows_live_at(rowset, now), query, budget)

    def query(self):
        """Return the query."""
        return self._query

    def budget(self):
        """Return the remaining budget."""
        return self._budget

    def now(self):
        """Return the current time."""
        return self._now

    def rows(self):
        """Return the stored rows."""
        return self._rows

    def select(self):
        """Return, in ascending order, the names selected from the stored rows."""
        return chosen_names(self._rows, self._query)

    def __len__(self):
        return len(self._rows)

    def __str__(self):
        return f"store with {len(self._rows)} rows, budget {self._budget}"

    def __eq__(self, other):
        if not isinstance(other, KernelStore):
            return False
        return self._setting() == other._setting() and self._state() == other._state()

    def _setting(self):
        """Return what stores that are merged have in common."""
        return (self._query, self._width)

    def _state(self):
        """Return what the operations change."""
        return (self._budget, self._now, self._rows)

    def insert(self, row):
        """Store a row, and drop the rows that it makes superfluous."""
        if not is_row_of_width(row, self._width):
            raise InvalidRow("not a row of this width")
        if row[EXPIRY] <= self._now or row in self._rows:
            return
        if rows_named(self._rows, (row[NAME],)):
            raise NameConflict(row[NAME])
        if len(self._rows) == MAX_ROWS:
            raise TooMany(MAX_ROWS)
        self._keep(tuple(sorted(self._rows + (row,))), self._budget)

    def delete(self, name):
        """Delete the named row at its cost, and return whether it was stored."""
        if not is_name(name):
            raise UnknownName(name)
        found = rows_named(self._rows, (name,))
        if not found:
            return False
        cost = found[0][COST]
        if cost > self._budget:
            raise BudgetExceeded(cost)
        self._keep(rows_not_named(self._rows, (name,)), self._budget - cost)
        return True

    def _keep(self, rows, budget):
        """Keep those of the rows that the budget asks for."""
        self._rows = lasting_rows(rows, self._query, budget)
        self._budget = budget

    def advance(self, now):
        """Set the current time, and drop the rows that are no longer live."""
        check_between(now, self._now, MAX_TIME)
        # The live rows of a durable kernel are a durable kernel, so no other row becomes superfluous.
        self._rows = rows_live_at(self._rows, now)
        self._now = now

    def select_without(self, names):
        """Return, in ascending order, the names selected from the stored rows without the given ones."""
        check_names(self._rows, names)
        cost = cost_of(rows_named(self._rows, names))
        if cost > self._budget:
            raise BudgetExceeded(cost)
        return chosen_names(rows_not_named(self._rows, names), self._query)

    def with_budget(self, budget):
        """Return a new store with the rows that a budget, at most the remaining one, asks for."""
        check_between(budget, 0, self._budget)
        return KernelStore(self._query, budget, width=self._width, rowset=self._rows, now=self._now)

    def merged(self, other):
        """Return a new store of the rows of both stores that are live at the later time."""
        if not isinstance(other, KernelStore) or self._setting() != other._setting():
            raise InvalidStore("not a store with the same query and width")
        now = max(self._now, other._now)
        rows = union_rowsets((rows_live_at(self._rows, now), rows_live_at(other._rows, now)))
        return KernelStore(self._query, min(self._budget, other._budget), width=self._width, rowset=rows, now=now)
