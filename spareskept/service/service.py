"""A service that keeps all rows in an archive, and answers from a cache that holds a kernel of them."""

from spareskept.errors import InvalidOperation
from spareskept.rows.rowsets import MAX_WIDTH, cost_of, rows_named
from spareskept.service.operations import after_operation
from spareskept.stores.store import KernelStore


class KernelService:
    """A query, an archive, a cache that answers the query, and what is needed to undo each operation."""

    def __init__(self, query, budget, *, width=MAX_WIDTH):
        # The cache is None while it is stale.
        self._cache = KernelStore(query, budget, width=width)
        self._query = query
        self._width = width
        self._budget = budget
        self._archive = ()
        self._now = 0
        self._rebuilds = 0
        self._spent = 0
        self._log = ()
        self._earlier = []

    def query(self):
        """Return the query."""
        return self._query

    def rows(self):
        """Return the archive."""
        return self._archive

    def budget(self):
        """Return the total budget."""
        return self._budget

    def now(self):
        """Return the current time."""
        return self._now

    def rebuilds(self):
        """Return how often the cache was rebuilt."""
        return self._rebuilds

    def spent(self):
        """Return the total cost of the rows that were deleted while the cache stored them."""
        return self._spent

    def log(self):
        """Return the operations that have not been undone, in order."""
        return self._log

    def __len__(self):
        return len(self._archive)

    def __str__(self):
        return f"service with {len(self._archive)} rows, {self._rebuilds} rebuilds"

    def __eq__(self, other):
        if not isinstance(other, KernelService):
            return False
        return self._setting() == other._setting()

    def _setting(self):
        """Return what equal services have in common."""
        return (self._query, self._width, self._budget, self._now, self._archive)

    def insert(self, row):
        """Add a row to the archive."""
        self._perform((("insert", row),))

    def delete(self, name):
        """Remove the named row from the archive."""
        self._perform((("delete", name),))

    def advance(self, now):
        """Set the current time."""
        self._perform((("advance", now),))

    def apply(self, operation):
        """Perform one operation."""
        self._perform((operation,))

    def apply_all(self, operations):
        """Perform all operations of a tuple as one group, or none of them, and return how many there are."""
        if not isinstance(operations, tuple):
            raise InvalidOperation("not a tuple of operations")
        if operations:
            self._perform(operations)
        return len(operations)

    def _perform(self, operations):
        """Perform the operations as one group, or raise the error of the first one that fails."""
        # All operations are tried on the archive alone before the first one changes the service.
        states = []
        archive, now = self._archive, self._now
        for operation in operations:
            archive, now = after_operation(self._width, archive, now, operation)
            states.append((archive, now))
        self._earlier.append(self._snapshot())
        for operation, state in zip(operations, states):
            self._pass_on(operation)
            self._archive, self._now = state
        self._log = self._log + operations

    def _pass_on(self, operation):
        """Let the cache take part in the operation, unless it is stale."""
        if self._cache is None:
            return
        word, content = operation
        if word == "insert":
            self._cache.insert(content)
        elif word == "advance":
            self._cache.advance(content)
        else:
            self._delete_cached(content)

    def _delete_cached(self, name):
        """Delete the named row from the cache, or let the cache be stale if it cannot afford that."""
        # A row that is not stored costs nothing.
        cost = cost_of(rows_named(self._cache.rows(), (name,)))
        self._spent = self._spent + cost
        if cost > self._cache.budget():
            self._cache = None
        else:
            self._cache.delete(name)

    def _snapshot(self):
        """Return all that the operations and rebuilding the cache change."""
        # The cache itself goes on changing, so its rows and its budget are kept instead. The log only
        # grows until it is cut off again, so its length is enough.
        cached = None if self._cache is None else (self._cache.rows(), self._cache.budget())
        return (self._archive, self._now, self._rebuilds, self._spent, len(self._log), cached)

    def undo(self):
        """Undo the most recent operation or group that has not been undone."""
        if not self._earlier:
            raise InvalidOperation("there is nothing to undo")
        self._archive, self._now, self._rebuilds, self._spent, count, cached = self._earlier.pop()
        self._log = self._log[:count]
        self._cache = None if cached is None else self._new_cache(cached[0], cached[1])

    def _new_cache(self, rows, budget):
        """Return a new cache for the current time."""
        return KernelStore(self._query, budget, width=self._width, rowset=rows, now=self._now)

    def _fresh_cache(self):
        """Return the cache, or a new one if it is stale."""
        return self._new_cache(self._archive, self._budget) if self._cache is None else self._cache

    def _use(self, cache):
        """Keep the cache, and count it if it is a new one."""
        if self._cache is None:
            self._rebuilds = self._rebuilds + 1
        self._cache = cache

    def select(self):
        """Return, in ascending order, the names selected from the rows of the cache."""
        self._use(self._fresh_cache())
        return self._cache.select()

    def select_without(self, names):
        """Return, in ascending order, the names selected from the rows of the cache without the given ones."""
        cache = self._fresh_cache()
        # A call that raises an error leaves a stale cache as it is.
        selected = cache.select_without(names)
        self._use(cache)
        return selected

    def cached_rows(self):
        """Return the rows of the cache."""
        self._use(self._fresh_cache())
        return self._cache.rows()

    def remaining(self):
        """Return the remaining budget of the cache."""
        self._use(self._fresh_cache())
        return self._cache.budget()
