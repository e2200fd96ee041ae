"""The text forms of integers and names, and their readers, which return None for any other text."""

from spareskept.rows.rowsets import is_name

MAX_DIGITS = 40
DIGITS = "0123456789"
NOTHING = "-"


def number_of_text(text):
    """Return the integer whose text form is the text, or None if there is none."""
    digits = text[1:] if text[:1] == "-" else text
    if not 1 <= len(digits) <= MAX_DIGITS or not all([digit in DIGITS for digit in digits]):
        return None
    number = int(text)
    # This refuses leading zeros and the zero with a sign.
    return number if str(number) == text else None


def text_of_names(names):
    """Return the text form of the names."""
    return ",".join(names) if names else NOTHING


def names_of_text(text):
    """Return the tuple of names, in any order, whose text form is the text, or None if there is none."""
    if text == NOTHING:
        return ()
    names = tuple(text.split(","))
    return names if all([is_name(name) for name in names]) else None
