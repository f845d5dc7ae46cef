"""Plans: in which ways a statement is run."""

from steadycalls.books import Book
from steadycalls.cells import is_whole
from steadycalls.errors import BadCall, BadMark, BadOrder, BadPart, TooMany
from steadycalls.labels import Label
from steadycalls.routes import Route
from steadycalls.statements import Statement, is_constant

PHASES = ("rows", "filters")
MARKS = ("each", "memo", "begin", "fold", "gone")
CHANGING_PARTS = ("orders", "phases", "marks", "kept")
MOST_ORDERS = 1000

# The lowest label with which a mark never changes what is seen, if a plan is not kept.
NEEDED = {"each": "changing", "memo": "statement", "begin": "statement", "fold": "session", "gone": "statement"}


class Plan:
    """A plan of a statement: orders, phases and marks, and whether it is kept."""

    def __init__(self, book, statement, *, orders=None, phases="rows", marks=None, kept=False):
        if not isinstance(book, Book):
            raise BadPart("book")
        if not isinstance(statement, Statement):
            raise BadPart("statement")
        statement.fit(book)
        numbers = statement.parts()
        if orders is not None:
            _check_orders(numbers, orders)
        if not isinstance(phases, str) or phases not in PHASES:
            raise BadPart("phases")
        if marks is not None:
            _check_marks(book, statement, marks)
        if not isinstance(kept, bool):
            raise BadPart("kept")
        self.book = book
        self.statement = statement
        self.orders = _as_written(numbers) if orders is None else tuple(orders)
        self.phases = phases
        self.marks = (MARKS[0],) * len(statement) if marks is None else tuple(marks)
        self.kept = kept
        self._route = Route(statement.condition, self.orders)

    def __eq__(self, other):
        return (
            isinstance(other, Plan)
            and self.book == other.book
            and self.statement == other.statement
            and self.orders == other.orders
            and self.phases == other.phases
            and self.marks == other.marks
            and self.kept == other.kept
        )

    def changed(self, part, value):
        """The Plan with other orders, phases or marks, or that is kept or not."""
        if not isinstance(part, str) or part not in CHANGING_PARTS:
            raise BadPart(part)
        return Plan(
            self.book,
            self.statement,
            orders=value if part == "orders" else self.orders,
            phases=value if part == "phases" else self.phases,
            marks=value if part == "marks" else self.marks,
            kept=value if part == "kept" else self.kept,
        )

    def marked(self, index, mark):
        """The Plan with another mark of one call."""
        if not _is_index(index, len(self.marks)):
            raise BadMark(index)
        marks = list(self.marks)
        marks[index] = mark
        return self.changed("marks", marks)

    def plain(self):
        """The plain plan of its book and statement."""
        return Plan(self.book, self.statement)

    def is_plain(self):
        """Whether it is equal to the plain plan."""
        return self == self.plain()

    def label_of(self, index):
        """The Label of the function of a call."""
        if not _is_index(index, len(self.marks)):
            raise BadCall(index)
        return self.book[self.statement.all_calls()[index][0]].label

    def folded_calls(self):
        """The list of the calls marked `fold`, each once, in their order."""
        calls = {}
        for call, mark in zip(self.statement.all_calls(), self.marks):
            if mark == "fold":
                calls[call] = True
        return list(calls)

    def route(self):
        """The Route of the rows through its filter."""
        return self._route


def _is_index(value, many):
    """Whether any value is an index of so many."""
    return is_whole(value) and 0 <= value < many


def _as_written(numbers):
    return tuple([tuple(range(number)) for number in numbers])


def _check_orders(numbers, orders):
    if not isinstance(orders, (list, tuple)) or len(orders) != len(numbers):
        raise BadOrder(None)
    for index, number in enumerate(numbers):
        if not _is_order(number, orders[index]):
            raise BadOrder(index)


def _is_order(number, value):
    """Whether any value is a tuple of the indexes of so many parts, each once."""
    if not isinstance(value, tuple) or len(value) != number:
        return False
    if not all([_is_index(place, number) for place in value]):
        return False
    return len({place: True for place in value}) == number


def _check_marks(book, statement, marks):
    if not isinstance(marks, (list, tuple)) or len(marks) != len(statement):
        raise BadMark(None)
    for index, mark in enumerate(marks):
        if not isinstance(mark, str) or mark not in _marks_let(book, statement, index):
            raise BadMark(index)


def marks_for(book, statement, index):
    """The list of the marks that a call of a statement may have."""
    statement.fit(book)
    if not _is_index(index, len(statement)):
        raise BadCall(index)
    return _marks_let(book, statement, index)


def _marks_let(book, statement, index):
    call = statement.all_calls()[index]
    if not book[call[0]].label.is_steady():
        return ["each"]
    marks = ["each", "memo"]
    if is_constant(call):
        marks.extend(["begin", "fold"])
    place = index - len(statement.atoms())
    if place >= 0 and not statement.outputs[place][1]:
        marks.append("gone")
    return marks


def least_label(mark, kept):
    """The lowest Label with which a mark never changes what is seen."""
    if not isinstance(mark, str) or mark not in MARKS:
        raise BadMark(mark)
    if not isinstance(kept, bool):
        raise BadPart("kept")
    return Label("always" if kept and mark == "fold" else NEEDED[mark])


def is_sound(plan):
    """Whether no label of the calls of a plan is lower than the one that its mark needs."""
    needed = [least_label(mark, plan.kept) for mark in plan.marks]
    return all([label <= plan.label_of(index) for index, label in enumerate(needed)])


def orders_of(statement):
    """Generate all orders of a statement, ascending."""
    for orders in _all_orders(statement.parts()):
        yield orders


def _all_orders(numbers):
    """The ascending list of all orders for some numbers of parts."""
    many = 1
    for number in numbers:
        for factor in range(1, number + 1):
            many = many * factor
    if many > MOST_ORDERS:
        raise TooMany(MOST_ORDERS)
    found = [()]
    for number in numbers:
        found = [orders + (order,) for orders in found for order in _arrangements(number)]
    return found


def _arrangements(number):
    """The ascending list of all tuples of the indexes of so many parts."""
    rows = [()]
    for _ in range(number):
        rows = [row + (place,) for row in rows for place in range(number) if place not in row]
    return rows
