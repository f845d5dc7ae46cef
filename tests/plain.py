"""What the document says of statements, plans and plays, in the plainest way, to compare with."""

import itertools

from steadycalls.books import Book
from steadycalls.cells import Cell
from steadycalls.functions import Function
from steadycalls.plans import Plan
from steadycalls.runs import World
from steadycalls.statements import Statement

MARKS = ["each", "memo", "begin", "fold", "gone"]
ROWS = [(x, y) for x in range(3) for y in range(3)]


def put_in_columns(call, row):
    name, given = call
    return (name, tuple(row["xy".index(one)] if isinstance(one, str) else one for one in given))


class Filter:
    """A filter whose calls and joints are numbered as they are written."""

    def __init__(self, plan):
        self.plan = plan
        self.atoms = 0
        self.joints = 0
        tree = plan.statement.condition
        self.tree = None if tree is None else self.numbered(tree)

    def numbered(self, tree):
        if tree[0] == "is":
            self.atoms += 1
            return ("is", self.atoms - 1, tree[2])
        if tree[0] == "not":
            return ("not", self.numbered(tree[1]))
        order = self.plan.orders[self.joints]
        self.joints += 1
        parts = [self.numbered(part) for part in tree[1]]
        return (tree[0], [parts[place] for place in order])

    def holds(self, tree, value):
        if tree is None:
            return True
        if tree[0] == "is":
            return value(tree[1]) == tree[2]
        if tree[0] == "not":
            return not self.holds(tree[1], value)
        if tree[0] == "and":
            return all(self.holds(part, value) for part in tree[1])
        return any(self.holds(part, value) for part in tree[1])


def go(plan, table, value):
    """The answers; value(index, at) tells the value of a call in a row when it is needed."""
    many = Filter(plan)
    first = len(plan.statement.all_calls()) - len(plan.statement.outputs)

    def outputs(at):
        answer = []
        for index, (_, shown) in enumerate(plan.statement.outputs, first):
            if plan.marks[index] != "gone":
                told = value(index, at)
                if shown:
                    answer.append(told)
        return tuple(answer)

    answers = []
    if plan.phases == "rows":
        for at in range(len(table)):
            if many.holds(many.tree, lambda index: value(index, at)):
                answers.append(outputs(at))
        return answers
    passing = []
    for at in range(len(table)):
        if many.holds(many.tree, lambda index: value(index, at)):
            passing.append(at)
    for at in passing:
        answers.append(outputs(at))
    return answers


def play(plan, state, table, folds):
    """The tuple (answers, state behind, calls, sights)."""
    world = World(plan.book, state)
    calls = plan.statement.all_calls()
    made = []
    sights = []
    begun = {}
    memos = {}

    def make(index, at, call):
        told = world.call(*call)
        made.append(call)
        sights.append((at, index, told))
        return told

    for index, call in enumerate(calls):
        if plan.marks[index] == "begin":
            begun[index] = make(index, None, call)

    def value(index, at):
        mark = plan.marks[index]
        if mark == "fold":
            return folds[calls[index]]
        if mark == "begin":
            return begun[index]
        call = put_in_columns(calls[index], table[at])
        if mark == "memo":
            if call not in memos:
                memos[call] = make(index, at, call)
            return memos[call]
        return make(index, at, call)

    answers = go(plan, table, value)
    return (answers, world.state(), made, sights)


def folds_of(plan, state):
    return {call: World(plan.book, state).call(*call)
            for call, mark in zip(plan.statement.all_calls(), plan.marks) if mark == "fold"}


class Asked(Exception):
    """A token that has no value yet."""


def hear(plan, table, values):
    """The tuple (changing calls, answers, tokens asked for); raises Asked."""
    made = []
    asked = []
    calls = plan.statement.all_calls()

    def value(index, at):
        name, given = put_in_columns(calls[index], table[at])
        label = plan.book[name].label.name
        if label == "changing":
            token = ("result", len(made))
            made.append((name, given))
        elif plan.marks[index] == "fold" and not (label == "always" or label == "session" and not plan.kept):
            token = ("folded", name, given)
        else:
            token = ("steady", name, given)
        asked.append(token)
        if token not in values:
            raise Asked(token)
        return values[token]

    answers = go(plan, table, value)
    return made, answers, asked


def unlike_on(one, other, table):
    """None, or values of all tokens that are asked for by which two plans are unlike on a table."""
    waiting = [{}]
    while waiting:
        values = waiting.pop()
        try:
            if hear(one, table, values)[:2] != hear(other, table, values)[:2]:
                return values
        except Asked as e:
            waiting += [{**values, e.args[0]: value} for value in range(3)]
    return None


def tables(many, columns):
    rows = [row for row in ROWS if ("x" in columns or row[0] == 0) and ("y" in columns or row[1] == 0)]
    return [list(table) for table in itertools.product(rows, repeat=many)]


def first_unlike(one, other):
    """None, or the least number of rows with which two plans are unlike."""
    columns = [given for _, arguments in one.statement.all_calls() for given in arguments]
    for many in range(3):
        for table in tables(many, columns):
            if unlike_on(one, other, table) is not None:
                return many
    return None


CELLS = [Cell("z", "table"), Cell("s", "setting"), Cell("k", "frozen"), Cell("u", "table")]
FUNCTIONS = [
    Function("al", 1, ("plus", ("arg", 0), ("cell", "k")), label="always"),
    Function("se", 0, ("cell", "s"), label="session"),
    Function("st", 1, ("plus", ("arg", 0), ("cell", "z")), label="statement"),
    Function("two", 2, ("if", ("arg", 0), ("cell", "u"), ("arg", 1)), label="statement"),
    Function("up", 0, ("cell", "z"), writes=[("z", ("plus", ("cell", "z"), 1))], cost=3),
    Function("ch", 1, ("plus", ("arg", 0), ("tick",)), writes=[("u", ("plus", ("cell", "u"), ("arg", 0)))]),
]
BOOK = Book(CELLS, FUNCTIONS)


def some_call(chance, book, names):
    name = chance.choice(names)
    return (name, tuple(chance.choice(["x", "x", "y", 0, 1, 2]) for _ in range(book[name].arguments)))


def some_tree(chance, book, names, atoms, deep=3):
    """A tree with so many calls."""
    if atoms == 1:
        tree = ("is", some_call(chance, book, names), chance.randrange(3))
    else:
        numbers = []
        while sum(numbers) < atoms:
            numbers.append(chance.randrange(1, atoms - sum(numbers) + 1) if deep > 1 else 1)
        tree = (chance.choice(["and", "or"]), tuple(some_tree(chance, book, names, n, deep - 1) for n in numbers))
    return ("not", tree) if chance.random() < 0.2 else tree


def some_statement(chance, book, most, names=None):
    """A statement with at most so many calls."""
    names = book.names() if names is None else names
    many = chance.randrange(most + 1)
    atoms = chance.randrange(many + 1)
    tree = some_tree(chance, book, names, atoms) if atoms else None
    outputs = [(some_call(chance, book, names), chance.random() < 0.7) for _ in range(many - atoms)]
    return Statement(tree, outputs)


def marks_let(book, statement, index):
    """The marks that a call may have, as point [11] tells them."""
    name, given = statement.all_calls()[index]
    first = len(statement.all_calls()) - len(statement.outputs)
    if book[name].label.name == "changing":
        return ["each"]
    let = ["each", "memo"]
    if "x" not in given and "y" not in given:
        let += ["begin", "fold"]
    if index >= first and not statement.outputs[index - first][1]:
        let.append("gone")
    return let


def some_plan(chance, book, statement, kept=None):
    orders = []
    for number in statement.parts():
        order = list(range(number))
        if chance.random() < 0.5:
            chance.shuffle(order)
        orders.append(tuple(order))
    marks = [chance.choice(marks_let(book, statement, index)) for index in range(len(statement))]
    kept = chance.random() < 0.5 if kept is None else kept
    return Plan(book, statement, orders=orders, phases=chance.choice(["rows", "filters"]), marks=marks, kept=kept)


def near_plan(chance, plan):
    """A plan that is a little other than one, so that it is often alike."""
    part = chance.choice(["orders", "phases", "marks", "marks"])
    return plan.changed(part, getattr(some_plan(chance, plan.book, plan.statement), part))


def some_table(chance, most=6):
    return [chance.choice(ROWS) for _ in range(chance.randrange(most + 1))]


class Undecided(Exception):
    """What is known of a token decides nothing."""


class Possible:
    """A token, and the values that it can have."""

    def __init__(self, token, possible):
        self.token = token
        self.possible = possible

    def __eq__(self, value):
        if value in self.possible and len(self.possible) > 1:
            raise Undecided(self.token)
        return value in self.possible


def is_enough(one, other, table, known):
    """Whether what is known shows that two plans are alike on a table."""
    heard = []
    for plan in (one, other):
        try:
            heard.append(hear(plan, table, Known(known)))
        except Undecided:
            return False
    (made, answers, _), (others, beside, _) = heard
    if made != others or len(answers) != len(beside):
        return False
    for row, against in zip(answers, beside):
        for first, second in zip(row, against):
            single = len(first.possible) == 1 and first.possible == second.possible
            if first.token != second.token and not single:
                return False
    return True


class Known:
    """What is known of tokens, with all values for each other one."""

    def __init__(self, known):
        self.known = known

    def __contains__(self, token):
        return True

    def __getitem__(self, token):
        return Possible(token, self.known.get(token, (0, 1, 2)))


def lets_tree(one, other, table, tree, known):
    """Whether a tree shows that two plans are alike on a table; tokens in it are such."""
    if tree is None:
        return is_enough(one, other, table, known)
    token, some, first, second = tree
    possible = known.get(token, (0, 1, 2))
    rest = tuple(value for value in possible if value not in some)
    if not some or not rest or list(some) != sorted(set(some)) or not set(some) <= set(possible):
        return False
    return (lets_tree(one, other, table, first, {**known, token: some})
            and lets_tree(one, other, table, second, {**known, token: rest}))


def lets_trees(one, other, trees):
    columns = [given for _, arguments in one.statement.all_calls() for given in arguments]
    needed = [tuple(table) for many in range(3) for table in tables(many, columns)]
    if sorted(table for table, _ in trees) != sorted(needed):
        return False
    return all(lets_tree(one, other, table, tree, {}) for table, tree in trees)


def pairs(book, statement, rows):
    """All pairs of a table and a state that are looked at, in order."""
    columns = [given for _, arguments in statement.all_calls() for given in arguments]
    touched = [cell for name, _ in statement.all_calls() for cell in book.touched(name)]
    names = [cell.name for cell in book.all_cells()]
    for many in range(rows + 1):
        for table in tables(many, columns):
            for values in itertools.product(*[range(3) if name in touched else [0] for name in names]):
                yield table, dict(zip(names, values))


def first_lie(book, better, statement, rows):
    """None, or the first pair on which the plain plans of two books are seen unlike."""
    plans = [Plan(one, statement) for one in (book, better)]
    for table, state in pairs(book, statement, rows):
        one, other = [play(plan, state, table, {})[:2] for plan in plans]
        if one != other:
            return (table, state)
    return None


def least_corrections(book, labels, statement, rows):
    """labels: a dict from the names of functions with wrong labels, in order, to the truest ones."""
    best = book.labelled(labels)
    found = []
    for many in range(len(labels) + 1):
        for names in itertools.combinations(labels, many):
            if not any(set(part) <= set(names) for part in found):
                corrected = book.labelled({name: labels[name] for name in names})
                if first_lie(corrected, best, statement, rows) is None:
                    found.append(names)
    return found
