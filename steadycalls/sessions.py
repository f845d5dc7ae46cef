"""Sessions: a book, and what was changed in it."""

from steadycalls.books import Book
from steadycalls.cells import Cell
from steadycalls.errors import BadFunction, BadPart, NothingToUndo, UnknownName
from steadycalls.functions import Function
from steadycalls.truest import truest_book


class Session:
    """A book, and the books ahead of its changes; it changes."""

    def __init__(self, book):
        if not isinstance(book, Book):
            raise BadPart("book")
        self._books = (book,)

    def __len__(self):
        return len(self._books[1:])

    def current(self):
        """The Book as it is now."""
        return self._books[-1]

    def put(self, function):
        """Put a Function in the place of the one with its name, or behind all."""
        if not isinstance(function, Function):
            raise BadFunction(function)
        book = self.current()
        if function.name in book:
            self._go_on(book.with_function(function))
        else:
            self._go_on(Book(book.all_cells(), _functions(book) + [function]))

    def drop(self, name):
        """Take a function away."""
        book = self.current()
        dropped = book[name].name
        left = [function for function in _functions(book) if function.name != dropped]
        self._go_on(Book(book.all_cells(), left))

    def relabel(self, name, label):
        """Give a function another label."""
        book = self.current()
        if name not in book:
            raise UnknownName(name)
        self._go_on(book.labelled({name: label}))

    def raise_all(self):
        """Put the truest label to each function."""
        self._go_on(truest_book(self.current()))

    def change_cell(self, name, kind):
        """Give a cell another kind."""
        book = self.current()
        changed = book.cell(name).name
        cells = [Cell(changed, kind) if cell.name == changed else cell for cell in book.all_cells()]
        self._go_on(Book(cells, _functions(book)))

    def rebook(self, book):
        """Put another Book in the place of the one there."""
        if not isinstance(book, Book):
            raise BadPart("book")
        self._go_on(book)

    def undo(self):
        """Take back the last step."""
        if len(self) == 0:
            raise NothingToUndo("undo")
        self._books = self._books[:-1]

    def attempt(self, visitor):
        """Call a function with the session; behind it the session is as ahead of it."""
        ahead = self._books
        try:
            return visitor(self)
        finally:
            self._books = ahead

    def trial(self):
        """A Trial of the session."""
        return Trial(self)

    def _go_on(self, book):
        self._books = self._books + (book,)


class Trial:
    """For one `with`, behind which the session is as ahead of it."""

    def __init__(self, session):
        self._session = session
        self._books = ()

    def __enter__(self):
        self._books = self._session._books
        return self._session

    def __exit__(self, kind, value, trace):
        session = self._session
        session._books = self._books


def _functions(book):
    """The list of the Functions of a book."""
    return [book[name] for name in book.names()]
