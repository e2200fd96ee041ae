"""The text forms of valid rows, conditions and queries."""

from spareskept.rows.conditions import CONNECTIVES
from spareskept.text.words import NOTHING, text_of_names


def text_of_row(row):
    """Return the text form of the row."""
    name, cost, values, expiry = row
    numbers = ",".join([str(value) for value in values])
    return f"{name} {cost} {numbers} {expiry}"


def text_of_parts(parts):
    """Return the parts of an order or of margins, with spaces between all that they hold."""
    return " ".join([str(word) for part in parts for word in part])


def text_of_order(order):
    """Return the text form of the order."""
    return text_of_parts(order) if order else NOTHING


def text_of_list(word, texts):
    """Return the text form of what joins several parts, from the texts of these."""
    joined = " , ".join(texts)
    return f"{word} ( {joined} )"


def text_of_condition(condition):
    """Return the text form of the condition."""
    word = condition[0]
    if word == "not":
        return f"not {text_of_condition(condition[1])}"
    if word in CONNECTIVES:
        return text_of_list(word, [text_of_condition(part) for part in condition[1]])
    return f"{word} {condition[1]} {condition[2]}"


def text_of_query(query):
    """Return the text form of the query."""
    word = query[0]
    if word == "where":
        return f"where ( {text_of_condition(query[1])} ) {text_of_query(query[2])}"
    if word == "group":
        return f"group {query[1]} {text_of_query(query[2])}"
    if word == "union":
        return text_of_list(word, [text_of_query(part) for part in query[1]])
    return f"{word} {text_of_plain(query)}"


def text_of_plain(query):
    """Return the text form, without its first word, of a query without inner queries."""
    word = query[0]
    if word == "top":
        return f"{query[2]} {text_of_order(query[1])}"
    if word == "capped":
        _, order, count, column, cap = query
        return f"{count} {column} {cap} {text_of_order(order)}"
    if word == "skyline":
        return text_of_parts(query[1])
    if word == "hull":
        return f"{query[1]} {query[2]}"
    if word == "forest":
        return f"{query[1]} {query[2]} {text_of_order(query[3])}"
    return text_of_table(query[1])


def text_of_table(table):
    """Return the text form of the table."""
    names, choices = table
    entries = [f"{number}={text_of_names(choice)}" for number, choice in enumerate(choices, start=1) if choice]
    listed = " ".join(entries) if entries else NOTHING
    return f"{text_of_names(names)} : {listed}"
