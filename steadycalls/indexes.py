"""Indexes: values of a function that are kept, and where they are wrong."""

from steadycalls.cells import are_values, check_state, is_value
from steadycalls.depends import all_arguments
from steadycalls.errors import BadArguments, BadPart
from steadycalls.runner import Runner
from steadycalls.runs import values_in
from steadycalls.truest import bars


class Index:
    """An index on a function: an entry for all its arguments; it changes."""

    def __init__(self, book, name, state):
        arguments = book[name].arguments
        check_state(book.all_cells(), state)
        self.book = book
        self.name = name
        self._rows = tuple(all_arguments(arguments))
        self._entries = self._values_on(state)

    def __eq__(self, other):
        return (
            isinstance(other, Index)
            and self.book == other.book
            and self.name == other.name
            and self._entries == other._entries
        )

    def __len__(self):
        return len(self._rows)

    def __getitem__(self, at):
        if not self._has(at):
            raise BadArguments(at)
        return self._entries[at]

    def __iter__(self):
        raise TypeError("an index is not gone through: see entries()")

    def entries(self):
        """The dict from all arguments, ascending, to their entries."""
        return {arguments: self._entries[arguments] for arguments in self._rows}

    def find(self, value):
        """The ascending list of the arguments with an entry."""
        if not is_value(value):
            raise BadPart("value")
        return [arguments for arguments in self._rows if self._entries[arguments] == value]

    def wrong(self, state):
        """The ascending list of the arguments whose entries are wrong on a state."""
        check_state(self.book.all_cells(), state)
        now = self._values_on(state)
        return [arguments for arguments in self._rows if self._entries[arguments] != now[arguments]]

    def rewrite(self, arguments, state):
        """Write one entry anew."""
        if not self._has(arguments):
            raise BadArguments(arguments)
        check_state(self.book.all_cells(), state)
        self._entries[arguments] = self._values_on(state)[arguments]

    def _has(self, value):
        """Whether any value is a tuple of arguments of the function."""
        return isinstance(value, tuple) and are_values(value, len(self._rows[0]))

    def _values_on(self, state):
        """The dict from all arguments to the values on a state, at tick 0."""
        runner = Runner(self.book, 0)
        ahead = values_in(self.book, state)
        return {arguments: runner.run(self.name, arguments, ahead)[0] for arguments in self._rows}


def index_bar(book, name):
    """None if the truest label of a function is `always`; otherwise what bars that label."""
    return bars(book, name, "always")
