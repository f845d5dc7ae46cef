"""Texts of terms, books, statements and plans, and reading them back."""

from steadycalls.books import Book
from steadycalls.cells import KINDS, VALUES, Cell, is_value
from steadycalls.errors import BadText
from steadycalls.functions import Function
from steadycalls.labels import LABELS
from steadycalls.plans import MARKS, PHASES, Plan
from steadycalls.statements import COLUMNS, DEEPEST_TREE, MOST_BRANCHES, Statement
from steadycalls.terms import LENGTHS, MOST_ARGUMENTS, MOST_DEEP, inner_terms, is_term
from steadycalls.words import FIGURES, NoForm, Words

VALUE_WORDS = ("0", "1", "2")
TREE_WORDS = ("is", "not", "and", "or")


def write_term(term):
    """The text of a term."""
    return " ".join(_term_words(term))


def _term_words(term):
    if is_value(term):
        return [str(term)]
    words = [str(term[0])]
    if term[0] in ("arg", "cell", "call"):
        words.append(str(term[1]))
    if term[0] == "call":
        words.append(str(len(term[2])))
    return words + [word for inner in inner_terms(term) for word in _term_words(inner)]


def write_book(book):
    """The text of a book."""
    rows = [f"cell {cell.name} {cell.kind}" for cell in book.all_cells()]
    for name in book.names():
        function = book[name]
        rows.append(f"function {name} {function.arguments} {function.label.name} {function.cost}")
        rows.append(f"result {write_term(function.result)}")
        rows.extend([f"write {cell} {write_term(term)}" for cell, term in function.writes])
    return "\n".join(rows)


def write_statement(statement):
    """The text of a statement."""
    rows = ["filter none"]
    if statement.condition is not None:
        rows = ["filter " + " ".join(_tree_words(statement.condition))]
    for call, shown in statement.outputs:
        rows.append(" ".join(["output", "shown" if shown else "hidden"] + _call_words(call)))
    return "\n".join(rows)


def _call_words(call):
    return [call[0], str(len(call[1]))] + [str(given) for given in call[1]]


def _tree_words(tree):
    word = tree[0]
    if word == "is":
        return [word] + _call_words(tree[1]) + [str(tree[2])]
    if word == "not":
        return [word] + _tree_words(tree[1])
    return [word, str(len(tree[1]))] + [inner for part in tree[1] for inner in _tree_words(part)]


def write_plan(plan):
    """The text of a plan."""
    rows = [" ".join(["order"] + [str(place) for place in order]) for order in plan.orders]
    rows.append(f"phases {plan.phases}")
    rows.append(" ".join(["marks"] + list(plan.marks)))
    rows.append("kept" if plan.kept else "fresh")
    return "\n".join(rows)


def read_term(text, arguments):
    """The term that a text writes, with indexes of arguments below a number."""
    if not isinstance(text, str):
        raise BadText(0)
    try:
        words = Words(text)
        term = _take_whole_term(words, arguments)
        words.end()
    except NoForm:
        raise BadText(0)
    return term


def _take_whole_term(words, arguments):
    """A term of words, with no more parts than a term can have."""
    term = _take_term(words, arguments, MOST_DEEP)
    if not is_term(term, arguments):
        raise NoForm("too many parts")
    return term


def _take_term(words, arguments, deep):
    """A term of words that is at most so deep."""
    if deep == 0:
        raise NoForm("too deep")
    word = words.take()
    if word in VALUE_WORDS:
        return VALUE_WORDS.index(word)
    if word == "arg":
        return (word, words.take_figure(arguments))
    if word == "cell":
        return (word, words.take_name())
    if word == "call":
        name = words.take_name()
        many = words.take_figure(MOST_ARGUMENTS + 1)
        return (word, name, tuple([_take_term(words, arguments, deep - 1) for _ in range(many)]))
    if word not in LENGTHS:
        raise NoForm("no term")
    return (word,) + tuple([_take_term(words, arguments, deep - 1) for _ in range(LENGTHS[word] - 1)])


def _rows_of(text):
    if not isinstance(text, str):
        raise BadText(None)
    return text.split("\n")


def _taken(rows, index, taker):
    """What a function takes from the words of a row, which must be there."""
    if index >= len(rows):
        raise BadText(index)
    try:
        words = Words(rows[index])
        told = taker(words)
        words.end()
    except NoForm:
        raise BadText(index)
    return told


def read_book(text):
    """The Book that a text writes."""
    rows = _rows_of(text)
    reader = BookReader()
    for index in range(len(rows)):
        _taken(rows, index, reader.take_row)
    if reader.is_waiting():
        raise BadText(len(rows))
    return reader.book_of_rows()


class BookReader:
    """What the rows of the text of a book tell; objects are made of it behind all rows."""

    def __init__(self):
        self._cells = []
        self._heads = []
        self._results = []
        self._writes = []

    def is_waiting(self):
        """Whether the result of a function is lacking."""
        return len(self._results) < len(self._heads)

    def take_row(self, words):
        """Take the next row."""
        word = words.take_one_of(self._words_let())
        if word == "cell":
            self._cells.append(Cell(words.take_name(), words.take_one_of(KINDS)))
        elif word == "function":
            self._heads.append(_take_head(words))
        elif word == "result":
            self._results.append(_take_whole_term(words, self._heads[-1][1]))
            self._writes.append([])
        else:
            cell = words.take_name()
            self._writes[-1].append((cell, _take_whole_term(words, self._heads[-1][1])))

    def _words_let(self):
        """The words with which the next row may begin."""
        if self.is_waiting():
            return ("result",)
        return ("cell", "function") if len(self._heads) == 0 else ("function", "write")

    def book_of_rows(self):
        """The Book."""
        functions = []
        for index, (name, arguments, label, cost) in enumerate(self._heads):
            functions.append(
                Function(name, arguments, self._results[index], label=label, writes=self._writes[index], cost=cost)
            )
        return Book(self._cells, functions)


def _take_head(words):
    """The tuple (name, arguments, label, cost) of a function."""
    name = words.take_name()
    arguments = words.take_figure(MOST_ARGUMENTS + 1)
    label = words.take_one_of(LABELS)
    return (name, arguments, label, words.take_number())


def read_statement(text):
    """The Statement that a text writes."""
    rows = _rows_of(text)
    condition = _taken(rows, 0, _take_filter)
    return Statement(condition, [_taken(rows, index, _take_output) for index in range(1, len(rows))])


def _take_filter(words):
    words.take_one_of(("filter",))
    word = words.take_one_of(("none",) + TREE_WORDS)
    return None if word == "none" else _take_tree_behind(words, word, DEEPEST_TREE)


def _take_tree(words, deep):
    """A tree of words that is at most so deep."""
    if deep == 0:
        raise NoForm("too deep")
    return _take_tree_behind(words, words.take_one_of(TREE_WORDS), deep)


def _take_tree_behind(words, word, deep):
    """A tree of words whose first one is taken."""
    if word == "is":
        return (word, _take_call(words), words.take_figure(len(VALUES)))
    if word == "not":
        return (word, _take_tree(words, deep - 1))
    many = words.take_figure(MOST_BRANCHES + 1)
    if many == 0:
        raise NoForm("no trees")
    return (word, tuple([_take_tree(words, deep - 1) for _ in range(many)]))


def _take_call(words):
    name = words.take_name()
    many = words.take_figure(MOST_ARGUMENTS + 1)
    return (name, tuple([_take_given(words) for _ in range(many)]))


def _take_given(words):
    """A column, or a value, that a call has as an argument."""
    word = words.take_one_of(COLUMNS + VALUE_WORDS)
    return word if word in COLUMNS else VALUE_WORDS.index(word)


def _take_output(words):
    words.take_one_of(("output",))
    is_shown = words.take_one_of(("shown", "hidden")) == "shown"
    return (_take_call(words), is_shown)


def read_plan(book, statement, text):
    """The Plan that a text writes."""
    rows = _rows_of(text)
    orders = []
    while len(orders) < len(rows) and rows[len(orders)].split(" ")[0] == "order":
        orders.append(_taken(rows, len(orders), _take_order))
    index = len(orders)
    phases = _taken(rows, index, _take_phases)
    marks = _taken(rows, index + 1, _take_marks)
    kept = _taken(rows, index + 2, _take_kept)
    if len(rows) > index + 3:
        raise BadText(index + 3)
    return Plan(book, statement, orders=orders, phases=phases, marks=marks, kept=kept)


def _take_order(words):
    words.take_one_of(("order",))
    return tuple([FIGURES.index(place) for place in words.take_all_of(FIGURES)])


def _take_phases(words):
    words.take_one_of(("phases",))
    return words.take_one_of(PHASES)


def _take_marks(words):
    words.take_one_of(("marks",))
    return words.take_all_of(MARKS)


def _take_kept(words):
    return words.take_one_of(("kept", "fresh")) == "kept"
