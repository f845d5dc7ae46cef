"""Told runs: how often each function was called, and which plans go with that."""

from steadycalls.cells import is_state, is_whole
from steadycalls.errors import BadPlan, BadRun, TooMany
from steadycalls.lies import MOST_PAIRS, Pairs
from steadycalls.plans import MARKS, PHASES, Plan, marks_for, orders_of
from steadycalls.plays import play, played_in
from steadycalls.runs import World
from steadycalls.statements import is_table, values_of

MOST_PLANS = 1000
MOST_ROWS_PARTING = 2


def counts_of(plan, state, table):
    """The dict from the names of the functions of a statement to how often a play calls them."""
    return _counted(plan, play(plan, state, table)[2])


def _counted(plan, made):
    counts = {name: 0 for name in _called_names(plan.book, plan.statement)}
    for name, _ in made:
        counts[name] += 1
    return counts


def _called_names(book, statement):
    """The list of the names of the functions of a statement, in the order of the book."""
    called = [name for name, _ in statement.all_calls()]
    return [name for name in book.names() if name in called]


def told_run(plan, state, table):
    """The told run of a play."""
    return _told(state, table, counts_of(plan, state, table))


def _told(state, table, counts):
    return ({name: state[name] for name in state}, list(table), counts)


def goes_with(plan, runs):
    """Whether a plan has the counts of all told runs."""
    _check_runs(plan.book, plan.statement, runs)
    return all([counts_of(plan, state, table) == counts for state, table, counts in runs])


def _check_runs(book, statement, runs):
    if not isinstance(runs, (list, tuple)):
        raise BadRun(None)
    for index, run in enumerate(runs):
        if not _is_run(book, statement, run):
            raise BadRun(index)


def _is_run(book, statement, value):
    """Whether any value is a told run of a statement."""
    if not isinstance(value, tuple) or len(value) != 3:
        return False
    state, table, counts = value
    return is_state(book.all_cells(), state) and is_table(table) and _are_counts(book, statement, counts)


def _are_counts(book, statement, value):
    names = _called_names(book, statement)
    if not isinstance(value, dict) or len(value) != len(names):
        return False
    return all([name in value and is_whole(value[name]) and value[name] >= 0 for name in names])


def plans_for(book, statement, runs):
    """The list of all plans, not kept, that go with told runs."""
    statement.fit(book)
    _check_runs(book, statement, runs)
    plans = _all_plans(book, statement)
    for state, table, counts in runs:
        stage = Stage(book, statement, state)
        plans = [plan for plan in plans if stage.counts(plan, table) == counts]
    return plans


def marks_told(book, statement, runs):
    """The list of lists of the marks that each call has in some plan that goes with told runs."""
    plans = plans_for(book, statement, runs)
    return [[mark for mark in MARKS if _has_mark(plans, index, mark)] for index in range(len(statement))]


def _has_mark(plans, index, mark):
    return any([plan.marks[index] == mark for plan in plans])


def _all_plans(book, statement):
    """The list of all plans that are not kept: by orders, phases, marks."""
    orders = list(orders_of(statement))
    let = [marks_for(book, statement, index) for index in range(len(statement))]
    many = len(orders) * len(PHASES)
    for marks in let:
        many = many * len(marks)
    if many > MOST_PLANS:
        raise TooMany(MOST_PLANS)
    rows = [()]
    for marks in let:
        rows = [row + (mark,) for row in rows for mark in marks]
    return [
        Plan(book, statement, orders=order, phases=phases, marks=row)
        for order in orders
        for phases in PHASES
        for row in rows
    ]


class Stage:
    """A state on which several plans of a statement are played; they share what is kept of runs."""

    def __init__(self, book, statement, state):
        self._world = World(book, state)
        called = [name for name in _called_names(book, statement) if not book[name].label.is_steady()]
        moving = {cell: True for name in called for cell in book.touched(name)}
        self._steady = [call for call in statement.atoms() if book[call[0]].label.is_steady()]
        self._moving = tuple([state[cell] for cell in moving])

    def counts(self, plan, table):
        """The counts of a play."""
        world = self._world.copy()
        folds = {call: world.call(call[0], call[1]) for call in plan.folded_calls()}
        return _counted(plan, played_in(world, plan, table, folds)[2])

    def outlook(self, table):
        """What the counts of all plans go by: steady values in the filter, and what changing calls touch."""
        made = [(call[0], values_of(call, row)) for row in table for call in self._steady]
        return (tuple([self._world.call(name, values) for name, values in made]), self._moving)


def parting_run(one, other):
    """A told run of a plan, on a short table, that another one does not go with, or None."""
    _check_fresh(one, one)
    _check_fresh(one, other)
    runs = _parting_runs(one, [other])
    return runs[0] if len(runs) > 0 else None


def parting_runs(plans):
    """The list of told runs of the first plan by which just those are left that no such run parts from it."""
    if not isinstance(plans, (list, tuple)) or len(plans) == 0:
        raise BadPlan(None)
    for plan in plans:
        _check_fresh(plans[0], plan)
    return _parting_runs(plans[0], plans[1:])


def _check_fresh(one, value):
    """Raise BadPlan for any value that is no plan, not kept, of the book and the statement of one."""
    if not isinstance(value, Plan) or value.kept:
        raise BadPlan(value)
    if value.book != one.book or value.statement != one.statement:
        raise BadPlan(value)


def _parting_runs(one, others):
    """The list of told runs of a plan by which all others are parted from it that can be."""
    left = list(others)
    if len(left) == 0:
        return []
    pairs = Pairs(one.book, one.statement, MOST_ROWS_PARTING)
    if pairs.how_many() > MOST_PAIRS:
        raise TooMany(MOST_PAIRS)
    stages = {}
    seen = {}
    runs = []
    number = 0
    while number < pairs.how_many() and len(left) > 0:
        table, state = pairs.pair(number)
        number += 1
        key = tuple(state.values())
        if key not in stages:
            stages[key] = Stage(one.book, one.statement, state)
        stage = stages[key]
        outlook = (tuple(table), stage.outlook(table))
        if outlook not in seen:
            seen[outlook] = True
            counts = stage.counts(one, table)
            same = [plan for plan in left if stage.counts(plan, table) == counts]
            if len(same) < len(left):
                runs.append(_told(state, table, counts))
            left = same
    return runs
