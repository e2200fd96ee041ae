"""The text forms of rows, rowsets and queries, and what a text stands for."""

from spareskept.errors import InvalidRow, ParseError
from spareskept.queries.forms import check_query, is_query
from spareskept.rows.rowsets import MAX_WIDTH, check_rowset, check_width, is_row, is_rowset
from spareskept.text.reading import query_of_words, row_of_words
from spareskept.text.words import NOTHING
from spareskept.text.writing import text_of_query, text_of_row

BETWEEN_ROWS = " ; "


def format_row(row):
    """Return the text form of the row."""
    if not is_row(row):
        raise InvalidRow("not a row")
    return text_of_row(row)


def format_rowset(rowset):
    """Return the text form of the rowset."""
    check_rowset(rowset)
    return BETWEEN_ROWS.join([text_of_row(row) for row in rowset]) if rowset else NOTHING


def format_query(query, *, width=MAX_WIDTH):
    """Return the text form of the query."""
    check_width(width)
    check_query(width, query)
    return text_of_query(query)


def check_text(text):
    """Raise ParseError if the value is not a string."""
    if not isinstance(text, str):
        raise ParseError("not a text")


def parse_row(text):
    """Return the row whose text form is the text."""
    check_text(text)
    row = row_of_words(text.split(" "))
    if not is_row(row):
        raise ParseError("not the text form of a row")
    return row


def parse_rowset(text):
    """Return the rowset whose text form is the text."""
    check_text(text)
    if text == NOTHING:
        return ()
    rowset = tuple([parse_row(part) for part in text.split(BETWEEN_ROWS)])
    if not is_rowset(rowset):
        raise ParseError("not the text form of a rowset")
    return rowset


def parse_query(text, *, width=MAX_WIDTH):
    """Return the query of this width whose text form is the text."""
    check_width(width)
    check_text(text)
    query = query_of_words(text.split(" "))
    if not is_query(width, query) or text_of_query(query) != text:
        raise ParseError("not the text form of a query of this width")
    return query
