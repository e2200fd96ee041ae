"""The errors of the package."""


class SparesError(ValueError):
    """An argument does not have the form that it must have."""


class InvalidRow(SparesError):
    """A value is not a row, or not one of the width that is asked for."""


class InvalidRowset(SparesError):
    """A value is not a rowset, or not one that fits its place."""


class InvalidOrder(SparesError):
    """A value is not an order for the width."""


class InvalidCondition(SparesError):
    """A value is not a condition for the width."""


class InvalidMargins(SparesError):
    """A value is not margins for the width."""


class InvalidTable(SparesError):
    """A value is not a table."""


class InvalidQuery(SparesError):
    """A value is not a query for the width."""


class InvalidTree(SparesError):
    """A value is not a merge tree."""


class InvalidStore(SparesError):
    """A value is not a store that fits another one."""


class InvalidMessage(SparesError):
    """A value is not a message of a replica."""


class InvalidOperation(SparesError):
    """A value is not an operation, or there is none to undo."""


class ParseError(SparesError):
    """A text is not the text form of a value."""


class InvalidCommand(SparesError):
    """A value is not a command of the shell."""


class UnknownName(KeyError):
    """A value is not the name of a row."""

    def __init__(self, name):
        KeyError.__init__(self, name)
        self.name = name


class NameConflict(LookupError):
    """Two different rows have one name."""

    def __init__(self, name):
        LookupError.__init__(self, name)
        self.name = name


class InvalidNumber(IndexError):
    """A value is not a number, or not one within its bounds."""

    def __init__(self, value):
        IndexError.__init__(self, value)
        self.value = value


class TooMany(OverflowError):
    """There is more of something than the limit allows."""

    def __init__(self, limit):
        OverflowError.__init__(self, limit)
        self.limit = limit


class BudgetExceeded(RuntimeError):
    """A deletion costs more than the budget allows."""

    def __init__(self, cost):
        RuntimeError.__init__(self, cost)
        self.cost = cost
