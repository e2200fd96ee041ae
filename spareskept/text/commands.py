"""The commands that a shell passes on to its service.

Each function takes the service and the list of what follows the first word of the command.
"""

from spareskept.certificates.certificates import depth_certificate
from spareskept.deletions.exclusion import exclusion_set
from spareskept.deletions.outcomes import robust_names
from spareskept.depths.depths import row_depth
from spareskept.errors import InvalidCommand
from spareskept.expiry.durable import entry_time, live_rows
from spareskept.rows.rowsets import row_names
from spareskept.text.formats import parse_row
from spareskept.text.words import names_of_text, number_of_text, text_of_names

DONE = "ok"


def live_archive(service):
    """Return the rows of the archive that are live."""
    return live_rows(service.rows(), service.now())


def text_of_number(number):
    """Return the text of an integer or None."""
    return "none" if number is None else str(number)


def run_insert(service, told):
    """Insert a row."""
    service.insert(told[0])
    return DONE


def run_delete(service, told):
    """Delete a row."""
    service.delete(told[0])
    return DONE


def run_advance(service, told):
    """Set the time."""
    service.advance(told[0])
    return DONE


def run_undo(service, _):
    """Undo the last operation."""
    service.undo()
    return DONE


def tell_selected(service, _):
    """Return the selected names."""
    return text_of_names(service.select())


def tell_selected_without(service, told):
    """Return the names selected without the given ones."""
    return text_of_names(service.select_without(told[0]))


def tell_cached(service, _):
    """Return the names of the rows in the cache."""
    return text_of_names(row_names(service.cached_rows()))


def tell_archive(service, _):
    """Return the names of the rows in the archive."""
    return text_of_names(row_names(service.rows()))


def tell_remaining(service, _):
    """Return the remaining budget of the cache."""
    return str(service.remaining())


def tell_rebuilds(service, _):
    """Return the number of rebuilds."""
    return str(service.rebuilds())


def tell_spent(service, _):
    """Return the spent budget."""
    return str(service.spent())


def tell_now(service, _):
    """Return the time."""
    return str(service.now())


def tell_depth(service, told):
    """Return the depth of a row among the live rows of the archive."""
    return text_of_number(row_depth(live_archive(service), service.query(), told[0]))


def tell_certificate(service, told):
    """Return what decides whether the depth of a row is within a budget."""
    name, budget = told
    word, content = depth_certificate(live_archive(service), service.query(), name, budget=budget)
    return f"exposed {text_of_names(content)}" if word == "exposed" else "hidden"


def tell_robust(service, told):
    """Return the robust names."""
    return text_of_names(robust_names(live_archive(service), service.query(), budget=told[0]))


def tell_excluded(service, told):
    """Return the exclusion set of some names."""
    return text_of_names(exclusion_set(live_archive(service), service.query(), told[0]))


def tell_entry(service, told):
    """Return the entry time of a row of the archive."""
    name, budget = told
    return text_of_number(entry_time(service.rows(), service.query(), name, budget=budget))


# For each first word the kinds of words that follow it.
KINDS = {
    "delete": ("name",),
    "advance": ("integer",),
    "undo": (),
    "select": (),
    "without": ("names",),
    "cached": (),
    "archive": (),
    "remaining": (),
    "rebuilds": (),
    "spent": (),
    "now": (),
    "depth": ("name",),
    "certificate": ("name", "integer"),
    "robust": ("integer",),
    "exclude": ("names",),
    "entry": ("name", "integer"),
}

ACTIONS = {
    "insert": run_insert,
    "delete": run_delete,
    "advance": run_advance,
    "undo": run_undo,
    "select": tell_selected,
    "without": tell_selected_without,
    "cached": tell_cached,
    "archive": tell_archive,
    "remaining": tell_remaining,
    "rebuilds": tell_rebuilds,
    "spent": tell_spent,
    "now": tell_now,
    "depth": tell_depth,
    "certificate": tell_certificate,
    "robust": tell_robust,
    "exclude": tell_excluded,
    "entry": tell_entry,
}


def value_of_word(kind, word):
    """Return what the word of this kind stands for, or raise InvalidCommand."""
    found = number_of_text(word) if kind == "integer" else names_of_text(word)
    if found is None or (kind == "name" and len(found) != 1):
        raise InvalidCommand("not the text form of a name, of names or of an integer")
    return found[0] if kind == "name" else found


def values_of(word, rest):
    """Return the list of what follows the first word of a command, or raise InvalidCommand."""
    if word not in KINDS or len(rest) != len(KINDS[word]):
        raise InvalidCommand("not a command")
    return [value_of_word(kind, text) for kind, text in zip(KINDS[word], rest)]


def run_command(service, command):
    """Run a command, other than service, and return its result."""
    word, space, rest = command.partition(" ")
    if word == "insert" and space:
        # All that follows is the row, whatever words it has.
        told = [parse_row(rest)]
    else:
        told = values_of(word, command.split(" ")[1:])
    action = ACTIONS[word]
    return action(service, told)
