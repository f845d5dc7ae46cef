"""The running of functions that runs, World and cases have in common."""


class Runner:
    """Runs functions of a book at one tick: as they stand, or by their labels on a view.

    States are tuples of values in the order of the book's cells here. Each run
    is kept: by text alone, a function may run another one without end, though
    there are few unlike runs.
    """

    def __init__(self, book, tick, view=None, steady=None):
        self._book = book
        self._tick = tick % 3
        self._view = view
        self._steady = steady
        self._places = {cell.name: place for place, cell in enumerate(book.all_cells())}
        self._kept = {}

    def run(self, name, arguments, state):
        """The tuple (value, state behind) of running a function on a state."""
        key = (name, arguments, state)
        if key not in self._kept:
            present = list(state)
            value = self._body(self._book[name], arguments, present)
            self._kept[key] = (value, tuple(present))
        return self._kept[key]

    def _body(self, function, arguments, present):
        """The value of a body; what it writes is put into the list of present values."""
        value = self._value(function.result, arguments, present)
        for cell, term in function.writes:
            written = self._value(term, arguments, present)
            present[self._places[cell]] = written
        return value

    def _value(self, term, arguments, present):
        if isinstance(term, int):
            return term
        word = term[0]
        if word == "arg":
            return arguments[term[1]]
        if word == "cell":
            return present[self._places[term[1]]]
        if word == "tick":
            return self._tick
        if word == "if":
            taken = 2 if self._value(term[1], arguments, present) != 0 else 3
            return self._value(term[taken], arguments, present)
        if word == "call":
            given = [self._value(inner, arguments, present) for inner in term[2]]
            return self._call(term[1], tuple(given), present)
        one = self._value(term[1], arguments, present)
        other = self._value(term[2], arguments, present)
        return joined(word, one, other)

    def _call(self, name, given, present):
        if self._view is not None and self._book[name].label.is_steady():
            return self._steady.run(name, given, self._view)[0]
        value, behind = self.run(name, given, tuple(present))
        present[:] = behind
        return value


class Calling:
    """Calls by labels in all statements that begin on one state.

    What is kept of runs is so for all of these statements, so they may share it.
    """

    def __init__(self, book, view):
        self._view = view
        self._steady = Runner(book, 0)
        self._changing = [Runner(book, tick, view, self._steady) for tick in range(3)]

    def steady(self, name, arguments):
        """The value of a call of a steady function."""
        return self._steady.run(name, arguments, self._view)[0]

    def changing(self, name, arguments, state, tick):
        """The tuple (value, state behind) of a call of a changing function."""
        return self._changing[tick % 3].run(name, arguments, state)


def joined(word, one, other):
    """The value of a sum, or of a comparison, of two values."""
    if word == "plus":
        return (one + other) % 3
    if word == "less":
        return 1 if one < other else 0
    return 1 if one == other else 0
