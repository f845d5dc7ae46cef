"""Where wrong labels show."""

from steadycalls.cells import is_whole, states_of
from steadycalls.choices import choices, has_part
from steadycalls.errors import BadPart, TooMany
from steadycalls.plans import Plan
from steadycalls.plays import play, played_in
from steadycalls.runs import World
from steadycalls.statements import tables_of
from steadycalls.truest import truest, wrong_names

MOST_PAIRS = 20000
MOST_LOOKED_ROWS = 3


def honest(book):
    """The Book with the truest labels in the place of the wrong ones."""
    return book.labelled(_wrong_ones(book))


def _wrong_ones(book):
    """The dict from the names of functions with wrong labels to their truest Labels."""
    return {name: truest(book, name) for name in wrong_names(book)}


def is_lie(book, statement, table, state):
    """Whether a table and a state are a lie of a book for a statement."""
    statement.fit(book)
    plans = [Plan(one, statement) for one in (book, honest(book))]
    one, other = [play(plan, state, table)[:2] for plan in plans]
    return one != other


def lie(book, statement, *, rows=2):
    """The first lie with at most so many rows, or None."""
    statement.fit(book)
    _check_rows(rows)
    pairs = Pairs(book, statement, rows)
    number = pairs.first_unlike(Looks(pairs, book), Looks(pairs, honest(book)))
    return None if number is None else pairs.pair(number)


def least_corrections(book, statement, *, rows=2):
    """The list of the least tuples of wrong labels with which, put right, nothing is seen any more."""
    statement.fit(book)
    _check_rows(rows)
    pairs = Pairs(book, statement, rows)
    labels = _wrong_ones(book)
    looks = Looks(pairs, book.labelled(labels))
    # No least one has another function: what plain plans call goes by whether labels are steady alone.
    wrong = [name for name in labels if name in pairs.reached and not labels[name].is_steady()]
    found = []
    for many in range(len(wrong) + 1):
        for names in choices(wrong, many):
            if not has_part(names, found):
                corrected = book.labelled({name: labels[name] for name in names})
                if pairs.first_unlike(Looks(pairs, corrected), looks) is None:
                    found.append(names)
    return found


def _check_rows(rows):
    if not is_whole(rows) or not 0 <= rows <= MOST_LOOKED_ROWS:
        raise BadPart("rows")


class Pairs:
    """The pairs of a table and a state that are looked at, numbered in their order."""

    def __init__(self, book, statement, rows):
        self.statement = statement
        called = [name for name, _ in statement.all_calls()]
        self.reached = {reached: True for name in called for reached in book.reaches(name)}
        touched = {cell: True for name in called for cell in book.touched(name)}
        moving = [cell for cell in book.all_cells() if cell.name in touched]
        still = {cell.name: 0 for cell in book.all_cells()}
        self._states = [{**still, **state} for state in states_of(moving)]
        self._tables = [table for many in range(rows + 1) for table in tables_of(statement, many)]

    def how_many(self):
        """The number of all pairs."""
        return len(self._tables) * len(self._states)

    def pair(self, number):
        """The tuple (table, state) with a number."""
        table = self._tables[number // len(self._states)]
        return (list(table), dict(self._states[number % len(self._states)]))

    def first_unlike(self, one, other):
        """None, or the number of the first pair that is not the same in two Looks."""
        many = self.how_many()
        number = 0
        while number < many and one.steadiness != other.steadiness:
            if number == MOST_PAIRS:
                raise TooMany(MOST_PAIRS)
            if one.look(number) != other.look(number):
                return number
            number += 1
        if many > MOST_PAIRS:
            raise TooMany(MOST_PAIRS)
        return None


class Looks:
    """What is seen of the plain plan of a book on pairs of a table and a state."""

    def __init__(self, pairs, book):
        self.steadiness = [book[name].label.is_steady() for name in pairs.reached]
        self._pairs = pairs
        self._book = book
        self._plan = Plan(book, pairs.statement)
        self._worlds = {}
        self._kept = {}

    def look(self, number):
        """The tuple (answers, state behind) on the pair with a number."""
        if number not in self._kept:
            table, state = self._pairs.pair(number)
            self._kept[number] = played_in(self._new_world(state), self._plan, table, {})[:2]
        return self._kept[number]

    def _new_world(self, state):
        """A World on a state; those on one state share what they keep of runs."""
        key = tuple(state.values())
        if key not in self._worlds:
            self._worlds[key] = World(self._book, state)
        return self._worlds[key].copy()
