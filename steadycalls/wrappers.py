"""Wrappers, and statements in which they are put in."""

from steadycalls.cells import is_value, is_whole
from steadycalls.errors import BadCall
from steadycalls.statements import Statement


def is_wrapper(book, name):
    """Whether a function does nothing but one call, of values and arguments."""
    function = book[name]
    if len(function.writes) > 0 or is_value(function.result) or function.result[0] != "call":
        return False
    return all([is_value(term) or term[0] == "arg" for term in function.result[2]])


def put_in(book, statement, index):
    """The Statement in which the call of a wrapper is put in."""
    _check_wrapped(book, statement, index)
    atoms = statement.atoms()
    outputs = list(statement.outputs)
    if index < len(atoms):
        condition = Exchange(index, _inner_call(book, atoms[index])).changed(statement.condition)
        return Statement(condition, outputs)
    place = index - len(atoms)
    call, shown = outputs[place]
    outputs[place] = (_inner_call(book, call), shown)
    return Statement(statement.condition, outputs)


def is_kept(book, statement, index):
    """Whether putting in the call of a wrapper changes nothing: both labels are steady, or both changing."""
    _check_wrapped(book, statement, index)
    call = statement.all_calls()[index]
    labels = [book[name].label for name, _ in (call, _inner_call(book, call))]
    return labels[0].is_steady() == labels[1].is_steady()


def _check_wrapped(book, statement, index):
    statement.fit(book)
    if not is_whole(index) or not 0 <= index < len(statement):
        raise BadCall(index)
    if not is_wrapper(book, statement.all_calls()[index][0]):
        raise BadCall(index)


def _inner_call(book, call):
    """The call that stands in the place of the call of a wrapper."""
    _, name, terms = book[call[0]].result
    return (name, tuple([term if is_value(term) else call[1][term[1]] for term in terms]))


class Exchange:
    """Puts a call in the place of the one with an index in a tree."""

    def __init__(self, index, call):
        self._left = index
        self._inner = call

    def changed(self, tree):
        """The tree with the call in it; trees are gone through as they are written."""
        word = tree[0]
        if word == "not":
            return (word, self.changed(tree[1]))
        if word != "is":
            return (word, tuple([self.changed(part) for part in tree[1]]))
        self._left -= 1
        return (word, self._inner, tree[2]) if self._left == -1 else tree
