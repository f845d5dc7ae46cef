"""Cases of functions, and what their values depend on."""

from steadycalls.cells import VALUES, states_of
from steadycalls.errors import BadPart
from steadycalls.runner import Runner
from steadycalls.runs import run_alone
from steadycalls.terms import has_tick

TICKS = (0, 1, 2)
PARTING_KINDS = ("setting", "table", "tick")


def cases(book, name):
    """Generate all cases of a function: by states, then by ticks."""
    touched = book.touched(name)
    moving = [cell for cell in book.all_cells() if cell.name in touched]
    still = {cell.name: 0 for cell in book.all_cells()}
    ticks = TICKS if _reaches_tick(book, name) else TICKS[:1]
    for state in states_of(moving):
        for tick in ticks:
            yield ({**still, **state}, tick)


def _reaches_tick(book, name):
    parts = [part for reached in book.reaches(name) for part in book[reached].parts()]
    return any([has_tick(part) for part in parts])


def value_at(book, name, arguments, case):
    """The value of a function in a case."""
    state, tick = case
    return run_alone(book, name, arguments, state, tick=tick)[0]


def writes_at(book, name, arguments, case):
    """Whether a function writes in a case."""
    state, tick = case
    return run_alone(book, name, arguments, state, tick=tick)[1] != state


def depends(book, name):
    """The ascending list of the kinds on which the value of a function depends."""
    study = Study(book, name, runners_of(book))
    return [kind for kind in PARTING_KINDS if study.first_parting(kind) is not None]


def writing(book, name):
    """None, or the first tuple (arguments, case) in which a function writes."""
    return Study(book, name, runners_of(book)).first_writing()


def parting(book, name, kind):
    """None, or two cases with unlike values, alike but for a kind, and their arguments."""
    study = Study(book, name, runners_of(book))
    if not isinstance(kind, str) or kind not in PARTING_KINDS:
        raise BadPart("kind")
    return study.first_parting(kind)


def runners_of(book):
    """The list of the Runners of a book for all ticks of cases.

    Studies of several functions may share them, and so the runs that they keep.
    """
    return [Runner(book, tick) for tick in TICKS]


class Study:
    """One function in all of its cases, for several questions on it."""

    def __init__(self, book, name, runners):
        self._name = book[name].name
        self._cells = book.all_cells()
        self._rows = all_arguments(book[name].arguments)
        self._cases = list(cases(book, name))
        self._runners = runners
        self._has_writes = any([len(book[reached].writes) > 0 for reached in book.reaches(name)])

    def first_writing(self):
        """None, or the first tuple (arguments, case) in which the function writes."""
        # What has no writes by its text need not be run to tell that.
        if not self._has_writes:
            return None
        for arguments in self._rows:
            for state, tick in self._cases:
                ahead = tuple(state.values())
                if self._runners[tick].run(self._name, arguments, ahead)[1] != ahead:
                    return (arguments, (dict(state), tick))
        return None

    def first_parting(self, kind):
        """None, or the first tuple (arguments, case, case) that parts values by a kind."""
        return self._first_pair([cell.name for cell in self._cells if cell.kind == kind], kind == "tick")

    def goes_by(self, name):
        """Whether two cases that are alike but for one cell part values, whatever kind it has."""
        return self._first_pair([name], False) is not None

    def _first_pair(self, free, is_tick_free):
        """None, or the first tuple (arguments, case, case) that parts values by some cells, or the tick."""
        kept = [self._kept_in(state, 0 if is_tick_free else tick, free) for state, tick in self._cases]
        for arguments in self._rows:
            pair = self._pair(arguments, kept)
            if pair is not None:
                one, other = pair
                return (arguments, self._case(one), self._case(other))
        return None

    def _kept_in(self, state, tick, free):
        """What two cases must have in common to be alike but for some cells."""
        values = [state[cell.name] for cell in self._cells if cell.name not in free]
        return (tuple(values), tick)

    def _pair(self, arguments, kept):
        """None, or the indexes of two cases with the same kept and unlike values."""
        seen = {}
        for index, (state, tick) in enumerate(self._cases):
            run = self._runners[tick].run(self._name, arguments, tuple(state.values()))
            first, value = seen.setdefault(kept[index], (index, run[0]))
            if value != run[0]:
                return (first, index)
        return None

    def _case(self, index):
        state, tick = self._cases[index]
        return (dict(state), tick)


def all_arguments(many):
    """The ascending list of the tuples of so many values."""
    rows = [()]
    for _ in range(many):
        rows = [row + (value,) for row in rows for value in VALUES]
    return rows
