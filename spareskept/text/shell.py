"""A shell: commands in, results out."""

from spareskept.errors import InvalidCommand
from spareskept.service.service import KernelService
from spareskept.text.commands import DONE, run_command, value_of_word
from spareskept.text.formats import parse_query


class Shell:
    """A service, once a command has created one, and the number of commands."""

    def __init__(self):
        self._service = None
        self._count = 0

    def service(self):
        """Return the service itself, or None."""
        return self._service

    def __len__(self):
        # A length is only ever taken of something here.
        return len(range(self._count))

    def __str__(self):
        return f"shell with {self._count} commands"

    def __eq__(self, other):
        if not isinstance(other, Shell):
            return False
        return self._service == other._service

    def run(self, command):
        """Run a command and return its result."""
        self._count = self._count + 1
        if not isinstance(command, str):
            raise InvalidCommand("not a string")
        # All that follows the third space of this command is the query, whatever words it has.
        words = command.split(" ", 3)
        if words[0] == "service":
            return self._serve(words[1:])
        if self._service is None:
            raise InvalidCommand("there is no service")
        return run_command(self._service, command)

    def _serve(self, words):
        """Create a new service of the words of a width, a budget and a query."""
        if len(words) < 3 or not words[2]:
            raise InvalidCommand("not a command")
        width, budget = [value_of_word("integer", word) for word in words[:2]]
        self._service = KernelService(parse_query(words[2], width=width), budget, width=width)
        return DONE

    def run_all(self, commands):
        """Run the commands of a tuple in order and return the tuple of their results."""
        if not isinstance(commands, tuple):
            raise InvalidCommand("not a tuple of commands")
        return tuple([self.run(command) for command in commands])
