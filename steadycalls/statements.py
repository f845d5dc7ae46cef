"""Statements: calls, trees and tables, and what of them is looked at."""

from steadycalls.cells import VALUES, are_values, is_name, is_value
from steadycalls.errors import BadCall, BadOutput, BadTable, BadTree, TooMany
from steadycalls.terms import MOST_ARGUMENTS

COLUMNS = ("x", "y")
MOST_CALLS = 8
MOST_ROWS = 6
MOST_BRANCHES = 8
DEEPEST_TREE = 8


def is_call(value):
    """Whether any value is a call by its form, of any function."""
    if not isinstance(value, tuple) or len(value) != 2 or not is_name(value[0]):
        return False
    if not isinstance(value[1], tuple) or len(value[1]) > MOST_ARGUMENTS:
        return False
    return all([is_value(given) or _is_column(given) for given in value[1]])


def _is_column(value):
    return isinstance(value, str) and value in COLUMNS


def is_constant(call):
    """Whether a call has no column."""
    return all([not _is_column(given) for given in call[1]])


def values_of(call, row):
    """The tuple of the arguments of a call with the columns of a row put in."""
    return tuple([row[COLUMNS.index(given)] if _is_column(given) else given for given in call[1]])


def is_tree(value):
    """Whether any value is a tree by its form."""
    return _is_tree(value, DEEPEST_TREE)


def _is_tree(value, deep):
    """Whether any value is a tree that is at most so deep."""
    if deep == 0 or not isinstance(value, tuple) or len(value) < 2 or not isinstance(value[0], str):
        return False
    word = value[0]
    if word == "is":
        return len(value) == 3 and is_call(value[1]) and is_value(value[2])
    if word not in ("not", "and", "or") or len(value) != 2:
        return False
    if word == "not":
        return _is_tree(value[1], deep - 1)
    if not isinstance(value[1], tuple) or not 1 <= len(value[1]) <= MOST_BRANCHES:
        return False
    # One after the other: shared parts that are too deep would take for ever all together.
    for part in value[1]:
        if not _is_tree(part, deep - 1):
            return False
    return True


def _branches(tree):
    """The list of the trees that stand directly in a tree."""
    if tree[0] == "is":
        return []
    return [tree[1]] if tree[0] == "not" else list(tree[1])


def _calls_in(tree):
    """The list of the calls of a tree; of a tree with too many, only some more than are let."""
    calls = []
    waiting = [tree]
    while waiting and len(calls) <= MOST_CALLS:
        part = waiting.pop()
        if part[0] == "is":
            calls.append(part[1])
        waiting.extend(_branches(part)[::-1])
    return calls


def passes(tree, told):
    """Whether a tree is true, by what is told of each call that it needs."""
    if tree is None:
        return True
    word = tree[0]
    if word == "is":
        return bool(told(tree[1], tree[2]))
    if word == "not":
        return not passes(tree[1], told)
    for part in tree[1]:
        if passes(part, told) != (word == "and"):
            return word == "or"
    return word == "and"


def is_row(value):
    """Whether any value is a row of a table."""
    return isinstance(value, tuple) and are_values(value, len(COLUMNS))


def is_table(value):
    """Whether any value is a table by its form."""
    if not isinstance(value, (list, tuple)) or len(value) > MOST_ROWS:
        return False
    return all([is_row(row) for row in value])


def check_table(table):
    """Raise BadTable or TooMany for any value that is no table."""
    if not isinstance(table, (list, tuple)):
        raise BadTable(None)
    for index, row in enumerate(table):
        if not is_row(row):
            raise BadTable(index)
    if len(table) > MOST_ROWS:
        raise TooMany(MOST_ROWS)


def tables_of(statement, many):
    """The ascending list of all tables of so many rows; columns that no call has are 0 in them."""
    found = statement.columns()
    xs, ys = [VALUES if column in found else VALUES[:1] for column in COLUMNS]
    tables = [()]
    for _ in range(many):
        tables = [table + ((x, y),) for table in tables for x in xs for y in ys]
    return [list(table) for table in tables]


class Statement:
    """A statement: its filter, a tree or None, and its outputs."""

    def __init__(self, condition, outputs=()):
        if condition is not None and not is_tree(condition):
            raise BadTree(condition)
        _check_outputs(outputs)
        atoms = [] if condition is None else _calls_in(condition)
        calls = atoms + [call for call, _ in outputs]
        if len(calls) > MOST_CALLS:
            raise TooMany(MOST_CALLS)
        self.condition = condition
        self.outputs = tuple(outputs)
        self._atoms = tuple(atoms)
        self._calls = tuple(calls)

    def __eq__(self, other):
        return (
            isinstance(other, Statement)
            and self.condition == other.condition
            and self.outputs == other.outputs
        )

    def __len__(self):
        return len(self._calls)

    def all_calls(self):
        """The list of its calls: those of the filter, then those of the outputs."""
        return list(self._calls)

    def atoms(self):
        """The list of the calls of the filter."""
        return list(self._atoms)

    def parts(self):
        """The list of the numbers of parts of its `and` and `or`, as they are written."""
        numbers = []
        waiting = [] if self.condition is None else [self.condition]
        while waiting:
            tree = waiting.pop()
            if tree[0] in ("and", "or"):
                numbers.append(len(tree[1]))
            waiting.extend(_branches(tree)[::-1])
        return numbers

    def columns(self):
        """The list of those of `x` and `y` that a call has."""
        return [column for column in COLUMNS if any([column in given for _, given in self._calls])]

    def fit(self, book):
        """Raise BadCall for the first call that a book does not have so."""
        for index, (name, given) in enumerate(self._calls):
            if name not in book or book[name].arguments != len(given):
                raise BadCall(index)

    def with_output(self, call, shown):
        """The Statement with one output more."""
        return Statement(self.condition, self.outputs + ((call, shown),))


def _check_outputs(outputs):
    if not isinstance(outputs, (list, tuple)):
        raise BadOutput(None)
    for index, output in enumerate(outputs):
        if not isinstance(output, tuple) or len(output) != 2:
            raise BadOutput(index)
        if not is_call(output[0]) or not isinstance(output[1], bool):
            raise BadOutput(index)
