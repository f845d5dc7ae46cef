"""Running functions as they stand, and calling them in a statement by their labels."""

from steadycalls.cells import are_values, check_state, is_value, is_whole
from steadycalls.errors import BadArguments, BadPart, BadTick
from steadycalls.runner import Calling, Runner


def run_alone(book, name, arguments, state, *, tick=0):
    """The tuple (value, state behind) of running a function as it stands."""
    _check_arguments(book[name], arguments)
    check_state(book.all_cells(), state)
    if not is_whole(tick) or tick < 0:
        raise BadTick(tick)
    ahead = values_in(book, state)
    value, behind = Runner(book, tick).run(name, tuple(arguments), ahead)
    return (value, state_with(book, behind))


def values_in(book, state):
    """The tuple of the values of a state, in the order of the cells of a book."""
    return tuple([state[cell.name] for cell in book.all_cells()])


def state_with(book, values):
    """The state with these values, in the order of the cells of a book."""
    return {cell.name: value for cell, value in zip(book.all_cells(), values)}


def _check_arguments(function, arguments):
    if not isinstance(arguments, (list, tuple)) or not are_values(arguments, function.arguments):
        raise BadArguments(arguments)


class World:
    """A statement that is running, and those behind it; it changes."""

    def __init__(self, book, state):
        check_state(book.all_cells(), state)
        self._book = book
        self._state = values_in(book, state)
        self._view = self._state
        self._calling = Calling(book, self._view)
        self._calls = []

    def __len__(self):
        return len(self._calls)

    def call(self, name, arguments):
        """Call a function by its label, and return its value."""
        function = self._book[name]
        _check_arguments(function, arguments)
        given = tuple(arguments)
        if function.label.is_steady():
            return self._calling.steady(name, given)
        value, self._state = self._calling.changing(name, given, self._state, self.tick())
        self._calls.append((name, given, value))
        return value

    def state(self):
        """The present state."""
        return state_with(self._book, self._state)

    def view(self):
        """The state at the begin of the statement."""
        return state_with(self._book, self._view)

    def tick(self):
        """The tick of the next call."""
        return len(self._calls)

    def calls(self):
        """The list of the calls of changing functions that the statement made."""
        return list(self._calls)

    def begin(self):
        """Begin the next statement."""
        self._view = self._state
        self._calling = Calling(self._book, self._view)
        self._calls = []

    def put(self, name, value):
        """Change a table from outside; the statement goes on."""
        self._change(name, value, "table")

    def assign(self, name, value):
        """Change a setting, and begin the next statement."""
        self._change(name, value, "setting")
        self.begin()

    def copy(self):
        """A World that goes on by itself from here."""
        twin = World(self._book, self.state())
        twin._view = self._view
        twin._calling = self._calling
        twin._calls = list(self._calls)
        return twin

    def _change(self, name, value, kind):
        if self._book.cell(name).kind != kind:
            raise BadPart("name")
        if not is_value(value):
            raise BadPart("value")
        state = self.state()
        state[name] = value
        self._state = values_in(self._book, state)
