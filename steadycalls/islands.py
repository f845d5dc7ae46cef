"""Islands of books: functions that have nothing to do with others; and books that are joined."""

from steadycalls.books import Book
from steadycalls.errors import BadPart


def islands(book):
    """The list of the islands of a book, by their first functions; each is a list of names."""
    found = []
    for name in book.names():
        if not any([name in island for island in found]):
            found.append(_island_of(book, name))
    return found


def one_island(book):
    """Whether a book is one island alone."""
    return len(islands(book)) == 1


def _island_of(book, name):
    """The island of a function, in the order of the book."""
    island = {name: True}
    waiting = [name]
    while waiting:
        known = waiting.pop()
        for other in book.names():
            if other not in island and _are_bound(book, known, other):
                island[other] = True
                waiting.append(other)
    return [other for other in book.names() if other in island]


def _are_bound(book, one, other):
    """Whether one of two functions reaches the other one, or both touch a cell."""
    if one in book.reaches(other) or other in book.reaches(one):
        return True
    touched = book.touched(one)
    return any([cell in touched for cell in book.touched(other)])


def part_of(book, names):
    """The Book with some functions, those that they reach, and the cells that these touch."""
    if not isinstance(names, (list, tuple)) or len(names) == 0:
        raise BadPart("names")
    reached = {one: True for name in names for one in book.reaches(name)}
    touched = {cell: True for name in names for cell in book.touched(name)}
    cells = [cell for cell in book.all_cells() if cell.name in touched]
    return Book(cells, [book[name] for name in book.names() if name in reached])


def joined(one, other):
    """The Book with the cells and functions of a book and then those of another one."""
    if not isinstance(one, Book):
        raise BadPart("one")
    if not isinstance(other, Book):
        raise BadPart("other")
    taken = _all_names(one)
    if any([name in taken for name in _all_names(other)]):
        raise BadPart("other")
    return Book(one.all_cells() + other.all_cells(), _functions(one) + _functions(other))


def _all_names(book):
    """The list of the names of cells and functions."""
    return [cell.name for cell in book.all_cells()] + book.names()


def _functions(book):
    return [book[name] for name in book.names()]
