"""What the document says of running and of labels, in the plainest way, to compare with."""

import itertools
import random

from steadycalls.books import Book
from steadycalls.cells import Cell
from steadycalls.functions import Function

LABELS = ("always", "session", "statement", "changing")


def run(book, name, arguments, state, tick, view=None):
    """The value; the state is changed. With a view, calls within go by labels."""
    function = book[name]
    value = work(book, function.result, arguments, state, tick, view)
    for cell, term in function.writes:
        written = work(book, term, arguments, state, tick, view)
        state[cell] = written
    return value


def work(book, term, arguments, state, tick, view):
    if isinstance(term, int):
        return term
    word, *rest = term
    if word == "arg":
        return arguments[rest[0]]
    if word == "cell":
        return state[rest[0]]
    if word == "tick":
        return tick % 3
    if word == "if":
        if work(book, rest[0], arguments, state, tick, view) != 0:
            return work(book, rest[1], arguments, state, tick, view)
        return work(book, rest[2], arguments, state, tick, view)
    if word == "call":
        name, terms = rest
        given = [work(book, inner, arguments, state, tick, view) for inner in terms]
        if view is not None and book[name].label.name != "changing":
            return run(book, name, given, dict(view), 0)
        return run(book, name, given, state, tick, view)
    one = work(book, rest[0], arguments, state, tick, view)
    other = work(book, rest[1], arguments, state, tick, view)
    return {"plus": (one + other) % 3, "less": int(one < other), "same": int(one == other)}[word]


def call(book, name, arguments, view, state, tick):
    """The value of a call by its label; the state is changed."""
    if book[name].label.name != "changing":
        return run(book, name, arguments, dict(view), 0)
    return run(book, name, arguments, state, tick, view)


def outcomes(book, name):
    """The list of (arguments, state, tick, value, state behind), in the order of cases."""
    names = [cell.name for cell in book.all_cells()]
    found = []
    for arguments in itertools.product(range(3), repeat=book[name].arguments):
        for values in itertools.product(range(3), repeat=len(names)):
            for tick in range(3):
                state = dict(zip(names, values))
                behind = dict(state)
                value = run(book, name, arguments, behind, tick)
                found.append((arguments, state, tick, value, behind))
    return found


def depends_on(book, found, kind):
    """Whether two outcomes that are alike but for a kind have unlike values."""
    cells = [cell.name for cell in book.all_cells() if cell.kind != kind]
    groups = {}
    for arguments, state, tick, value, _ in found:
        key = (arguments, tuple(state[name] for name in cells), None if kind == "tick" else tick)
        groups.setdefault(key, set()).add(value)
    return any(len(values) > 1 for values in groups.values())


def truest_name(book, name):
    found = outcomes(book, name)
    if any(state != behind for _, state, _, _, behind in found) or depends_on(book, found, "tick"):
        return "changing"
    if depends_on(book, found, "table"):
        return "statement"
    if depends_on(book, found, "setting"):
        return "session"
    return "always"


def some_term(chance, cells, ahead, arguments, deep):
    """A term picked by chance; ahead: tuples (name, number of arguments)."""
    words = ["value"] + ["arg"] * (2 * (arguments > 0)) + ["cell"] * (3 * (len(cells) > 0)) + ["tick"]
    if deep > 1:
        words += ["plus", "less", "same", "if"] + ["call"] * (2 * (len(ahead) > 0))
    word = chance.choice(words)
    if word == "value":
        return chance.randrange(3)
    if word == "arg":
        return ("arg", chance.randrange(arguments))
    if word == "cell":
        return ("cell", chance.choice(cells).name)
    if word == "tick":
        return ("tick",)
    if word == "call":
        name, many = chance.choice(ahead)
        return ("call", name, tuple(some_term(chance, cells, ahead, arguments, deep - 1) for _ in range(many)))
    many = 3 if word == "if" else 2
    return (word,) + tuple(some_term(chance, cells, ahead, arguments, deep - 1) for _ in range(many))


def some_book(seed):
    """A book of up to three cells and up to four functions, picked by chance."""
    chance = random.Random(seed)
    names = chance.sample(["ca", "cb", "cc", "cd"], chance.randrange(4))
    cells = [Cell(name, chance.choice(["frozen", "setting", "table", "table"])) for name in names]
    tables = [cell.name for cell in cells if cell.kind == "table"]
    functions = []
    ahead = []
    for name in chance.sample(["fa", "fb", "fc", "fd", "fe"], chance.randrange(1, 5)):
        arguments = chance.randrange(3)
        result = some_term(chance, cells, ahead, arguments, 3)
        written = chance.sample(tables, chance.randrange(len(tables) + 1)) if chance.random() < 0.5 else []
        writes = [(cell, some_term(chance, cells, ahead, arguments, 3)) for cell in written]
        label = chance.choice(LABELS)
        functions.append(Function(name, arguments, result, label=label, writes=writes))
        ahead.append((name, arguments))
    return Book(cells, functions)


def some_state(chance, book):
    return {cell.name: chance.randrange(3) for cell in book.all_cells()}
