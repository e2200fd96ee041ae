"""Operations on an archive: which values are operations, and what they do to the archive and the time."""

from spareskept.checks import check_between, is_tuple_between
from spareskept.errors import InvalidOperation, InvalidRow, NameConflict, TooMany
from spareskept.expiry.durable import MAX_TIME
from spareskept.rows.rowsets import MAX_ROWS, NAME, check_names, is_row_of_width, names_of, rows_not_named

WORDS = ("insert", "delete", "advance")


def check_operation(operation):
    """Raise InvalidOperation if the value is not a pair that begins with the word of an operation."""
    if not is_tuple_between(operation, 2, 2) or operation[0] not in WORDS:
        raise InvalidOperation("not an operation")


def after_operation(width, archive, now, operation):
    """Return a pair of the archive and the time after the operation, or raise the error that it raises."""
    check_operation(operation)
    word, content = operation
    if word == "insert":
        return (with_row(width, archive, content), now)
    if word == "delete":
        check_names(archive, (content,))
        return (rows_not_named(archive, (content,)), now)
    check_between(content, now, MAX_TIME)
    return (archive, content)


def with_row(width, archive, row):
    """Return the archive with one more row."""
    if not is_row_of_width(row, width):
        raise InvalidRow("not a row of this width")
    if row[NAME] in names_of(archive):
        raise NameConflict(row[NAME])
    if len(archive) == MAX_ROWS:
        raise TooMany(MAX_ROWS)
    return tuple(sorted(archive + (row,)))
