"""Readers of rows and queries, which raise ParseError if they can't go on.

The functions that begin with read_ take the words of a text and the place of the first one that they read, and
return a pair of what they have read and the place behind that. All of them may accept more than the text forms:
their callers compare the text form of the result with the text.
"""

from spareskept.checks import DIRECTIONS
from spareskept.errors import ParseError
from spareskept.queries.forms import MAX_NESTING
from spareskept.rows.conditions import COMPARISONS, CONNECTIVES, MAX_CONDITION_NESTING
from spareskept.tables.tables import are_table_names
from spareskept.text.words import NOTHING, names_of_text, number_of_text


def row_of_words(words):
    """Return the row of four words."""
    if len(words) != 4:
        raise ParseError("a row has four words")
    name, cost, values, expiry = words
    numbers = tuple([number_of_word(word) for word in values.split(",")])
    return (name, number_of_word(cost), numbers, number_of_word(expiry))


def query_of_words(words):
    """Return the query of all the words."""
    query, end = read_query(words, 0, MAX_NESTING)
    if end < len(words):
        raise ParseError("words are left over")
    return query


def word_at(words, at):
    """Return the word at this place, or an empty one behind the last word."""
    return words[at] if at < len(words) else ""


def number_of_word(word):
    """Return the integer that the word stands for."""
    number = number_of_text(word)
    if number is None:
        raise ParseError("an integer is missing")
    return number


def number_at(words, at):
    """Return the integer at this place."""
    return number_of_word(word_at(words, at))


def names_of_word(word):
    """Return the names that the word stands for."""
    names = names_of_text(word)
    if names is None:
        raise ParseError("names are missing")
    return names


def read_word(words, at, word):
    """Return the place behind this word."""
    if word_at(words, at) != word:
        raise ParseError("a word is missing")
    return at + 1


def read_parts(words, at, length):
    """Return the pairs, or tuples of another length, of a column, a direction and integers."""
    parts = []
    while word_at(words, at + 1) in DIRECTIONS:
        numbers = [number_at(words, place) for place in range(at + 2, at + length)]
        parts.append((number_at(words, at), words[at + 1]) + tuple(numbers))
        at = at + length
    return (tuple(parts), at)


def read_order(words, at):
    """Return an order."""
    if word_at(words, at) == NOTHING:
        return ((), at + 1)
    return read_parts(words, at, 2)


def read_condition(words, at, nesting):
    """Return a condition with at most so many conditions nested."""
    if nesting == 0:
        raise ParseError("too many conditions are nested")
    word = word_at(words, at)
    if word == "not":
        part, end = read_condition(words, at + 1, nesting - 1)
        return ((word, part), end)
    if word in CONNECTIVES:
        parts, end = read_list(read_condition, words, at + 1, nesting - 1)
        return ((word, parts), end)
    if word not in COMPARISONS:
        raise ParseError("not a condition")
    return ((word, number_at(words, at + 1), number_at(words, at + 2)), at + 3)


def read_list(read, words, at, nesting):
    """Return a tuple of the parts, each read by the function, between the next brackets."""
    part, at = read(words, read_word(words, at, "("), nesting)
    parts = [part]
    while word_at(words, at) == ",":
        part, at = read(words, at + 1, nesting)
        parts.append(part)
    return (tuple(parts), read_word(words, at, ")"))


def read_top(words, at):
    """Return a query for top rows."""
    order, end = read_order(words, at + 1)
    return (("top", order, number_at(words, at)), end)


def read_capped(words, at):
    """Return a query for capped top rows."""
    count, column, cap = [number_at(words, place) for place in range(at, at + 3)]
    order, end = read_order(words, at + 3)
    return (("capped", order, count, column, cap), end)


def read_skyline(words, at):
    """Return a query for the skyline."""
    margins, end = read_parts(words, at, 3)
    return (("skyline", margins), end)


def read_hull(words, at):
    """Return a query for the hull."""
    return (("hull", number_at(words, at), number_at(words, at + 1)), at + 2)


def read_forest(words, at):
    """Return a query for the forest."""
    order, end = read_order(words, at + 2)
    return (("forest", number_at(words, at), number_at(words, at + 1), order), end)


def read_table(words, at):
    """Return a query by a table."""
    names = names_of_word(word_at(words, at))
    # Without this check a long text could ask for more sets than there is room for.
    if not are_table_names(names):
        raise ParseError("not the names of a table")
    choices, end = read_choices(words, read_word(words, at + 1, ":"))
    listed = tuple([choices.get(number, ()) for number in range(1, 1 << len(names))])
    return (("table", (names, listed)), end)


def read_choices(words, at):
    """Return a dict from the numbers of sets to the names that are selected from them."""
    choices = {}
    if word_at(words, at) == NOTHING:
        return (choices, at + 1)
    while "=" in word_at(words, at):
        number, _, names = words[at].partition("=")
        choices[number_of_word(number)] = names_of_word(names)
        at = at + 1
    return (choices, at)


READERS = {
    "top": read_top,
    "capped": read_capped,
    "skyline": read_skyline,
    "hull": read_hull,
    "forest": read_forest,
    "table": read_table,
}


def read_query(words, at, nesting):
    """Return a query with at most so many queries nested."""
    if nesting == 0:
        raise ParseError("too many queries are nested")
    word = word_at(words, at)
    if word == "where":
        condition, at = read_condition(words, read_word(words, at + 1, "("), MAX_CONDITION_NESTING)
        inner, at = read_query(words, read_word(words, at, ")"), nesting - 1)
        return ((word, condition, inner), at)
    if word == "group":
        inner, end = read_query(words, at + 2, nesting - 1)
        return ((word, number_at(words, at + 1), inner), end)
    if word == "union":
        parts, end = read_list(read_query, words, at + 1, nesting - 1)
        return ((word, parts), end)
    if word not in READERS:
        raise ParseError("not a query")
    read = READERS[word]
    return read(words, at + 1)
