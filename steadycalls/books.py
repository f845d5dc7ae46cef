"""Books: the cells of a store, and the functions on them."""

from steadycalls.cells import Cell
from steadycalls.errors import BadCell, BadFunction, TooMany, UnknownName
from steadycalls.functions import Function
from steadycalls.terms import calls_in, cells_in, parts_with

MOST_CELLS = 6
MOST_FUNCTIONS = 8


class Book:
    """A book; each function calls only those that stand ahead of it."""

    def __init__(self, cells, functions):
        _check_cells(cells)
        _check_functions(cells, functions)
        self._cells = tuple(cells)
        self._functions = tuple(functions)
        self._by_name = {function.name: function for function in functions}

    def __eq__(self, other):
        return (
            isinstance(other, Book)
            and self._cells == other._cells
            and self._functions == other._functions
        )

    def __len__(self):
        return len(self._functions)

    def __contains__(self, x):
        return isinstance(x, str) and x in self._by_name

    def __getitem__(self, at):
        if not isinstance(at, str) or at not in self._by_name:
            raise UnknownName(at)
        return self._by_name[at]

    def __iter__(self):
        raise TypeError("a book is not gone through: see names()")

    def all_cells(self):
        """The list of the Cells, in order."""
        return list(self._cells)

    def names(self):
        """The list of the names of the functions, in order."""
        return [function.name for function in self._functions]

    def cell(self, name):
        """The Cell with a name."""
        for cell in self._cells:
            if isinstance(name, str) and cell.name == name:
                return cell
        raise UnknownName(name)

    def reaches(self, name):
        """The list of the names of the functions that are run, by text, if one is."""
        reached = {self[name].name: True}
        # Calls go to functions ahead only, so going back once finds all of them.
        for function in self._functions[::-1]:
            if function.name in reached:
                for part in function.parts():
                    reached.update({called: True for called in calls_in(part)})
        return [known for known in self.names() if known in reached]

    def touched(self, name):
        """The list of the names of the cells that what a function reaches reads or writes."""
        touched = {}
        for reached in self.reaches(name):
            function = self[reached]
            touched.update({cell: True for cell, _ in function.writes})
            for part in function.parts():
                touched.update({cell: True for cell in cells_in(part)})
        return [cell.name for cell in self._cells if cell.name in touched]

    def with_function(self, function):
        """The Book with a Function in the place of the one with its name."""
        if not isinstance(function, Function):
            raise BadFunction(function)
        if function.name not in self:
            raise UnknownName(function.name)
        functions = [function if one.name == function.name else one for one in self._functions]
        return Book(self._cells, functions)

    def labelled(self, labels):
        """The Book with other labels, a dict from names of functions."""
        for name in labels:
            if name not in self:
                raise UnknownName(name)
        functions = []
        for function in self._functions:
            if function.name in labels:
                functions.append(function.labelled(labels[function.name]))
            else:
                functions.append(function)
        return Book(self._cells, functions)


def _check_cells(cells):
    if not isinstance(cells, (list, tuple)):
        raise BadCell(None)
    names = {}
    for index, cell in enumerate(cells):
        if not isinstance(cell, Cell) or cell.name in names:
            raise BadCell(index)
        names[cell.name] = True
    if len(cells) > MOST_CELLS:
        raise TooMany(MOST_CELLS)


def _check_functions(cells, functions):
    if not isinstance(functions, (list, tuple)) or len(functions) == 0:
        raise BadFunction(None)
    kinds = {cell.name: cell.kind for cell in cells}
    ahead = {}
    for index, function in enumerate(functions):
        if not isinstance(function, Function) or not _fits(function, kinds, ahead):
            raise BadFunction(index)
        ahead[function.name] = function.arguments
    if len(functions) > MOST_FUNCTIONS:
        raise TooMany(MOST_FUNCTIONS)


def _fits(function, kinds, ahead):
    """Whether a function fits behind others; ahead tells how many arguments those have."""
    if function.name in kinds or function.name in ahead:
        return False
    for cell, _ in function.writes:
        if cell not in kinds or kinds[cell] != "table":
            return False
    return all([_part_fits(part, kinds, ahead) for part in function.parts()])


def _part_fits(part, kinds, ahead):
    for cell in cells_in(part):
        if cell not in kinds:
            return False
    for _, name, terms in parts_with("call", part):
        if name not in ahead or ahead[name] != len(terms):
            return False
    return True
