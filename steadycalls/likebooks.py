"""Books that do the same whatever is called in them, and calls that show that they don't."""

from steadycalls.books import Book
from steadycalls.cells import VALUES, are_values, is_state, is_value, states_of
from steadycalls.depends import TICKS, all_arguments
from steadycalls.errors import BadArguments, BadMoment, BadPart, TooMany
from steadycalls.runner import Calling
from steadycalls.runs import state_with, values_in

MOST_CALLS_AT_MOMENTS = 20000


def call_at(book, name, arguments, moment):
    """The tuple (value, state behind) of what a call does at a moment."""
    function = book[name]
    if not isinstance(arguments, (list, tuple)) or not are_values(arguments, function.arguments):
        raise BadArguments(arguments)
    if not _is_moment(book, moment):
        raise BadMoment(moment)
    view, state, tick = moment
    calling = Calling(book, values_in(book, view))
    value, behind = _done(calling, function, tuple(arguments), values_in(book, state), tick)
    return (value, state_with(book, behind))


def _done(calling, function, arguments, state, tick):
    """The tuple (value, state behind) of a call by its label; states are tuples of values."""
    if function.label.is_steady():
        return (calling.steady(function.name, arguments), state)
    return calling.changing(function.name, arguments, state, tick)


def _is_moment(book, value):
    """Whether any value is a moment of the cells of a book."""
    if not isinstance(value, tuple) or len(value) != 3 or not is_value(value[2]):
        return False
    cells = book.all_cells()
    view, state, _ = value
    if not is_state(cells, view) or not is_state(cells, state):
        return False
    return all([view[cell.name] == state[cell.name] for cell in cells if cell.kind != "table"])


def unlike_call(one, other):
    """None, or a tuple (name, arguments, moment) of a call that does not do the same in both books."""
    _check_books(one, other)
    doings = [Doing(one, other, name) for name in one.names()]
    if sum([doing.how_many() for doing in doings]) > MOST_CALLS_AT_MOMENTS:
        raise TooMany(MOST_CALLS_AT_MOMENTS)
    for doing in doings:
        found = doing.first_unlike()
        if found is not None:
            return found
    return None


def are_alike_books(one, other):
    """Whether all calls do the same in both books at all moments."""
    return unlike_call(one, other) is None


def is_unlike_call(one, other, value):
    """Whether any value is a tuple of a call that does not do the same in both books."""
    _check_books(one, other)
    if not isinstance(value, tuple) or len(value) != 3 or value[0] not in one:
        return False
    name, arguments, moment = value
    if not isinstance(arguments, tuple) or not are_values(arguments, one[name].arguments):
        return False
    if not _is_moment(one, moment):
        return False
    return call_at(one, name, arguments, moment) != call_at(other, name, arguments, moment)


def _check_books(one, other):
    if not isinstance(one, Book):
        raise BadPart("one")
    if not isinstance(other, Book) or not _are_comparable(one, other):
        raise BadPart("other")


def _are_comparable(one, other):
    """Whether two books have the same cells, and functions that can be called in the same way."""
    if one.all_cells() != other.all_cells() or len(one) != len(other):
        return False
    for name in one.names():
        if name not in other or one[name].arguments != other[name].arguments:
            return False
        if one[name].label.is_steady() != other[name].label.is_steady():
            return False
    return True


class Doing:
    """What calls of one function do in two books."""

    def __init__(self, one, other, name):
        self._books = (one, other)
        self._name = name
        self._rows = all_arguments(one[name].arguments)
        touched = one.touched(name) + other.touched(name)
        self._cells = [cell for cell in one.all_cells() if cell.name in touched]
        self._tables = [cell for cell in self._cells if cell.kind == "table"]

    def how_many(self):
        """The number of all calls at moments; cells that neither function touches are 0 in them."""
        many = len(self._rows) * len(TICKS)
        for _ in self._cells + self._tables:
            many = many * len(VALUES)
        return many

    def first_unlike(self):
        """None, or the first tuple (name, arguments, moment) of a call that does not do the same."""
        still = {cell.name: 0 for cell in self._books[0].all_cells()}
        for touched in states_of(self._cells):
            view = {**still, **touched}
            callings = [Calling(book, values_in(book, view)) for book in self._books]
            for state, tick in self._moments(view):
                for arguments in self._rows:
                    if self._is_unlike(callings, arguments, state, tick):
                        return (self._name, arguments, (view, state, tick))
        return None

    def _moments(self, view):
        """The list of tuples (state, tick) that need be looked at with a view."""
        # What a steady function does goes by the view alone.
        if self._books[0][self._name].label.is_steady():
            return [(dict(view), 0)]
        return [({**view, **tables}, tick) for tables in states_of(self._tables) for tick in TICKS]

    def _is_unlike(self, callings, arguments, state, tick):
        ahead = tuple(state.values())
        one, other = [
            _done(calling, book[self._name], arguments, ahead, tick) for calling, book in zip(callings, self._books)
        ]
        return one != other
