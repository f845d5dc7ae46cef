"""Plays of plans: what is called in them, and what is seen of them."""

from steadycalls.cells import is_value
from steadycalls.errors import BadToken
from steadycalls.routes import gone_through
from steadycalls.runs import World
from steadycalls.statements import check_table, values_of


def folded(plan, state):
    """The dict from the folded calls of a plan to their values on a planning state."""
    world = World(plan.book, state)
    return {call: world.call(call[0], call[1]) for call in plan.folded_calls()}


def play(plan, state, table, *, folds=None):
    """The tuple (answers, state behind, calls) of a plan on a state and a table."""
    world = World(plan.book, state)
    check_table(table)
    if folds is None:
        return played_in(world, plan, table, folded(plan, state))
    if not _has_values(folds, plan.folded_calls()):
        raise BadToken(folds)
    return played_in(world, plan, table, folds)


def played_in(world, plan, table, folds):
    """What `play` tells, played in a World that is about to begin."""
    player = Player(plan, world, table, folds)
    return (player.answers, world.state(), player.made)


def sights(plan, state, table):
    """Generate tuples (row, index, value) of all calls that are made."""
    world = World(plan.book, state)
    check_table(table)
    player = Player(plan, world, table, folded(plan, state))
    for sight in player.seen:
        yield sight


def _has_values(folds, calls):
    """Whether any value is a dict with a value for each of some calls."""
    if not isinstance(folds, dict):
        return False
    return all([call in folds and is_value(folds[call]) for call in calls])


class Player:
    """A plan that was played in a World: its answers, and the calls that were made."""

    def __init__(self, plan, world, table, folds):
        self._plan = plan
        self._world = world
        self._rows = list(table)
        self._folds = folds
        self._calls = plan.statement.all_calls()
        self._begun = {}
        self._memos = {}
        self.made = []
        self.seen = []
        for index, mark in enumerate(plan.marks):
            if mark == "begin":
                self._begun[index] = self._make(index, None, self._calls[index][1])
        self.answers = gone_through(plan, len(self._rows), self)

    def value_of(self, index, at):
        """The value of a call where a row needs it, by its mark."""
        mark = self._plan.marks[index]
        if mark == "fold":
            return self._folds[self._calls[index]]
        if mark == "begin":
            return self._begun[index]
        values = values_of(self._calls[index], self._rows[at])
        if mark == "each":
            return self._make(index, at, values)
        key = (self._calls[index][0], values)
        if key not in self._memos:
            self._memos[key] = self._make(index, at, values)
        return self._memos[key]

    def _make(self, index, at, values):
        """The value of a call that is made for a row, or for None at the begin."""
        name = self._calls[index][0]
        value = self._world.call(name, values)
        self.made.append((name, values))
        self.seen.append((at, index, value))
        return value
