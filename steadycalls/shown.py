"""Worlds in which plans that are not alike are seen unlike."""

from steadycalls.alike import check_plans, is_difference
from steadycalls.bodies import column_term, lookup
from steadycalls.books import Book
from steadycalls.cells import Cell
from steadycalls.errors import BadPart, BadToken
from steadycalls.functions import Function
from steadycalls.oracles import Hearing, Oracle
from steadycalls.plans import Plan
from steadycalls.terms import is_term

LETTERS = "abcdefghijklmnopqrstuvwxyz"

# Terms tell ticks apart up to this one alone.
LAST_TICK = 2


def shown_by(one, other, value):
    """None, or a tuple (book, planning state, state) by which a difference of two plans is seen."""
    check_plans(one, other)
    if not is_difference(one, other, value):
        raise BadToken(value)
    table, values = value
    hearings = [Hearing(Oracle(values), plan, table) for plan in (one, other)]
    scene = Scene(one, hearings)
    if not scene.is_in_time():
        return None
    functions = [scene.function(one.book[name]) for name in one.book.names()]
    if None in functions:
        return None
    return scene.world(functions)


def moved(plan, book):
    """The Plan of another book with equal orders, phases, marks and kept."""
    if not isinstance(plan, Plan):
        raise BadPart("plan")
    return Plan(book, plan.statement, orders=plan.orders, phases=plan.phases, marks=plan.marks, kept=plan.kept)


class Scene:
    """What functions must do so that two hearings of plans of one statement are seen.

    One cell tells planning from playing. Another one is 0 up to the first unlike
    changing call, and keeps from then on what was called there.
    """

    def __init__(self, plan, hearings):
        one, other = hearings
        self._plan = plan
        self._told = {token: hearing.asked[token] for hearing in hearings for token in hearing.asked}
        free = [letter for letter in LETTERS if letter not in plan.book]
        self._planning = free[0]
        self._writing = free[1]
        self._made = one.made
        self._unlike = _first_unlike(one.made, other.made)

    def is_in_time(self):
        """Whether no changing call that matters is behind the last tick that terms can tell."""
        last = len(self._made) - 1 if self._unlike is None else self._unlike
        return last <= LAST_TICK

    def function(self, function):
        """The Function that does so, or None if its result would be too great a term."""
        changing = not function.label.is_steady()
        result = self._result() if changing else self._value(function)
        if not is_term(result, function.arguments):
            return None
        writes = [] if not changing or self._unlike is None else [(self._writing, self._written(function))]
        return Function(
            function.name, function.arguments, result, label=function.label, writes=writes, cost=function.cost
        )

    def _result(self):
        """The result of all changing functions: it goes by the tick."""
        ticks = [tick for tick in range(LAST_TICK + 1) if ("result", tick) in self._told]
        return column_term(("tick",), {tick: self._told[("result", tick)] for tick in ticks})

    def _value(self, function):
        """The result of a steady function."""
        now = self._values_of("steady", function)
        planned = self._values_of("folded", function)
        many = function.arguments
        if all([now.get(given, planned[given]) == planned[given] for given in planned]):
            return lookup(many, {given: told[given] for told in (now, planned) for given in told})
        return ("if", ("cell", self._planning), lookup(many, planned), lookup(many, now))

    def _values_of(self, word, function):
        """The dict from arguments of a function to their told values, now or when it was planned."""
        tokens = [token for token in self._told if token[0] == word and token[1] == function.name]
        return {token[2]: self._told[token] for token in tokens}

    def _written(self, function):
        """What a changing function writes: 1 or 2 at the first unlike call, which then stays."""
        kept = ("cell", self._writing)
        return ("if", kept, kept, ("if", ("same", ("tick",), self._unlike), self._sign(function), 0))

    def _sign(self, function):
        """The term that is 1 for the first unlike call as the first plan makes it, and 2 for others."""
        if self._unlike >= len(self._made):
            return 2
        name, values = self._made[self._unlike]
        if name != function.name:
            return 2
        sign = 1
        for index, value in enumerate(values):
            sign = ("if", ("same", ("arg", index), value), sign, 2)
        return sign

    def world(self, functions):
        """The tuple (book, planning state, state) with these functions."""
        kind = "setting" if self._plan.kept else "table"
        book = Book([Cell(self._planning, kind), Cell(self._writing, "table")], functions)
        state = {self._planning: 0, self._writing: 0}
        return (book, {**state, self._planning: 1}, state)


def _first_unlike(made, others):
    """None, or the index of the first call that is not the same in two lists."""
    if made == others:
        return None
    index = 0
    while made[:index + 1] == others[:index + 1]:
        index += 1
    return index
