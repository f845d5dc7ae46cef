"""Kept plans: what stands in them, and when it is stale."""

from steadycalls.cells import check_state, states_of
from steadycalls.errors import BadFunction, BadPlan
from steadycalls.plans import Plan
from steadycalls.plays import folded, play
from steadycalls.runner import Runner
from steadycalls.runs import run_alone, state_with, values_in


class Kept:
    """A kept plan with the folded values of its planning state."""

    def __init__(self, plan, state):
        if not isinstance(plan, Plan) or not plan.kept:
            raise BadPlan(plan)
        self._folds = folded(plan, state)
        self._planned = values_in(plan.book, state)
        self.plan = plan

    def __eq__(self, other):
        return isinstance(other, Kept) and self.plan == other.plan and self._folds == other._folds

    def planned(self):
        """The planning state."""
        return state_with(self.plan.book, self._planned)

    def folds(self):
        """The dict from the folded calls to their values."""
        return {call: self._folds[call] for call in self._folds}

    def stale(self, state):
        """The list of the folded calls that have another value on a state."""
        now = folded(self.plan, state)
        return [call for call in now if now[call] != self._folds[call]]

    def is_good(self, state):
        """Whether each folded call has the same value on a state."""
        return len(self.stale(state)) == 0

    def is_good_with(self, function, state):
        """Whether it is good on a state if a Function stands in the place of the one with its name."""
        book = self.plan.book.with_function(function)
        if function.arguments != self.plan.book[function.name].arguments:
            raise BadFunction(function)
        check_state(book.all_cells(), state)
        if not function.label.is_steady() and self._needs_steady(function.name):
            return False
        values = {call: run_alone(book, call[0], call[1], state)[0] for call in self._folds}
        return values == self._folds

    def _needs_steady(self, name):
        """Whether a call of a function has a mark that a changing one may not have."""
        called = [mark for call, mark in zip(self.plan.statement.all_calls(), self.plan.marks) if call[0] == name]
        return any([mark != "each" for mark in called])

    def watched(self):
        """The list of the names of the cells that it watches."""
        watched = {}
        for name, given in self._folds:
            for cell in self.plan.book.touched(name):
                if cell not in watched and self._is_watched(name, given, cell):
                    watched[cell] = True
        return [cell.name for cell in self.plan.book.all_cells() if cell.name in watched]

    def _is_watched(self, name, given, watched):
        """Whether the value of a call is unlike on two states that differ in one cell alone."""
        book = self.plan.book
        runner = Runner(book, 0)
        touched = [book.cell(cell) for cell in book.touched(name)]
        still = {cell.name: 0 for cell in book.all_cells()}
        seen = {}
        for state in states_of(touched):
            value = runner.run(name, given, tuple({**still, **state}.values()))[0]
            others = tuple([state[cell.name] for cell in touched if cell.name != watched])
            if seen.setdefault(others, value) != value:
                return True
        return False

    def played(self, state, table):
        """What `play` tells with its folded values."""
        return play(self.plan, state, table, folds=self._folds)
