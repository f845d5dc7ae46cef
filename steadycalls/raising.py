"""Moves, which change a book, and least sets of them that raise a label."""

from steadycalls.books import Book
from steadycalls.cells import Cell, is_value
from steadycalls.choices import choices, has_part
from steadycalls.depends import Study, runners_of
from steadycalls.errors import BadMove, TooMany
from steadycalls.functions import Function
from steadycalls.labels import Label, to_label
from steadycalls.terms import has_tick

MOST_MOVES = 8

# What a move of a cell makes of it.
KINDS_BEHIND = {"set": "setting", "frozen": "frozen"}


def moves_of(book, name):
    """The list of the moves that touch a function: those of functions, then those of cells."""
    moves = []
    for reached in book.reaches(name):
        moves.extend(_moves_of_function(book[reached]))
    for touched in book.touched(name):
        moves.extend(_moves_of_cell(book.cell(touched)))
    return moves


def _moves_of_function(function):
    moves = [("unwritten", function.name, cell) for cell, _ in function.writes]
    if any([has_tick(part) for part in function.parts()]):
        moves.append(("untimed", function.name))
    return moves


def _moves_of_cell(cell):
    words = {"table": ("set", "frozen"), "setting": ("frozen",), "frozen": ()}
    return [(word, cell.name) for word in words[cell.kind]]


def can_move(book, moves):
    """Whether moves can be made."""
    _check_moves(book, moves)
    return _can_move(book, moves)


def with_moves(book, moves):
    """The Book with moves made."""
    _check_moves(book, moves)
    if not _can_move(book, moves):
        raise BadMove(moves)
    return _moved(book, moves)


def _check_moves(book, moves):
    if not isinstance(moves, (list, tuple)):
        raise BadMove(None)
    known = [move for name in book.names() for move in _moves_of_function(book[name])]
    known.extend([move for cell in book.all_cells() for move in _moves_of_cell(cell)])
    moved = {}
    for index, move in enumerate(moves):
        if not _is_of_words(move) or move not in known or _what_moves(move) in moved:
            raise BadMove(index)
        moved[_what_moves(move)] = True


def _is_of_words(value):
    """Whether any value is a tuple of strings; others may answer == in their own way."""
    return isinstance(value, tuple) and all([isinstance(word, str) for word in value])


def _what_moves(move):
    """What a move makes unlike, so that no other one may do so: a part of a function, or a cell."""
    return ("cell", move[1]) if move[0] in KINDS_BEHIND else move


def _can_move(book, moves):
    """Whether no function writes a cell that is no table behind moves."""
    kinds = _kinds_behind(book, moves)
    written = [cell for name in book.names() for cell, _ in _writes_behind(book[name], moves)]
    return all([kinds[cell] == "table" for cell in written])


def _kinds_behind(book, moves):
    """The dict from the names of the cells to the kinds that they have behind moves."""
    kinds = {cell.name: cell.kind for cell in book.all_cells()}
    for move in moves:
        if move[0] in KINDS_BEHIND:
            kinds[move[1]] = KINDS_BEHIND[move[0]]
    return kinds


def _writes_behind(function, moves):
    """The list of the writes that a function has behind moves."""
    return [(cell, term) for cell, term in function.writes if ("unwritten", function.name, cell) not in moves]


def _moved(book, moves):
    kinds = _kinds_behind(book, moves)
    cells = [Cell(cell.name, kinds[cell.name]) for cell in book.all_cells()]
    return Book(cells, [_moved_function(book[name], moves) for name in book.names()])


def _moved_function(function, moves):
    result = function.result
    writes = _writes_behind(function, moves)
    if ("untimed", function.name) in moves:
        result = _untimed(result)
        writes = [(cell, _untimed(term)) for cell, term in writes]
    return Function(
        function.name, function.arguments, result, label=function.label, writes=writes, cost=function.cost
    )


def _untimed(term):
    """A term in which the tick is 0."""
    if is_value(term) or term[0] in ("arg", "cell"):
        return term
    if term[0] == "tick":
        return 0
    if term[0] == "call":
        return (term[0], term[1], tuple([_untimed(inner) for inner in term[2]]))
    return (term[0],) + tuple([_untimed(inner) for inner in term[1:]])


def raising(book, name, label):
    """The list of all sets of moves that raise a function to a label, and of which no part does."""
    moves = moves_of(book, name)
    asked = to_label(label)
    if len(moves) > MOST_MOVES:
        raise TooMany(MOST_MOVES)
    ladder = Ladder(book, name)
    found = []
    for many in range(len(moves) + 1):
        for chosen in choices(moves, many):
            if not has_part(chosen, found) and ladder.raises(chosen, asked):
                found.append(chosen)
    return found


class Ladder:
    """The truest labels of one function behind moves.

    What it does goes by the moves of functions alone, so it is looked at once for
    all moves of cells.
    """

    def __init__(self, book, name):
        self._book = book
        self._name = name
        self._kept = {}

    def raises(self, moves, label):
        """Whether moves can be made, and the truest label is not lower than a label then."""
        once = {_what_moves(move): True for move in moves}
        if len(once) < len(moves) or not _can_move(self._book, moves):
            return False
        return label <= self._truest(moves)

    def _truest(self, moves):
        cells = self._cells_behind(tuple([move for move in moves if move[0] not in KINDS_BEHIND]))
        if cells is None:
            return Label("changing")
        kinds = _kinds_behind(self._book, moves)
        found = [kinds[cell] for cell in cells]
        if "table" in found:
            return Label("statement")
        return Label("session" if "setting" in found else "always")

    def _cells_behind(self, moves):
        """The names of the cells by which the value goes behind moves of functions; None if it is changing."""
        if moves not in self._kept:
            book = _moved(self._book, moves)
            study = Study(book, self._name, runners_of(book))
            self._kept[moves] = None
            if study.first_parting("tick") is None and study.first_writing() is None:
                self._kept[moves] = [cell for cell in book.touched(self._name) if study.goes_by(cell)]
        return self._kept[moves]
