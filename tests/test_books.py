"""Point [6]: books."""

import unittest

from oddities import oddities
from steadycalls.books import Book
from steadycalls.cells import Cell
from steadycalls.errors import BadCell, BadFunction, BadLabel, TooMany, UnknownName
from steadycalls.functions import Function
from steadycalls.labels import Label

Z = Cell("z", "table")
S = Cell("s", "setting")
K = Cell("k", "frozen")
Y = Cell("y", "table")
W = Cell("w", "table")
CELLS = [Z, S, K, Y, W]

LEAF = Function("leaf", 1, ("plus", ("arg", 0), ("cell", "s")), label="session")
SIDE = Function("side", 0, 1, writes=[("y", 2)])
MID = Function("mid", 2, ("call", "leaf", (("arg", 1),)), writes=[("z", ("call", "side", ()))])
TOP = Function("top", 0, ("if", 0, ("call", "mid", (("cell", "k"), 1)), 0))
LONE = Function("lone", 0, ("tick",))
FUNCTIONS = [LEAF, SIDE, LONE, MID, TOP]


def refused(case, error, call):
    with case.assertRaises(error) as caught:
        call()
    return caught.exception


class TestBook(unittest.TestCase):
    def setUp(self):
        self.book = Book(CELLS, FUNCTIONS)

    def test_lists(self):
        self.assertEqual(self.book.all_cells(), CELLS)
        self.assertEqual(self.book.names(), ["leaf", "side", "lone", "mid", "top"])
        self.assertEqual(len(self.book), 5)
        for told in [self.book.all_cells(), self.book.names(), self.book.reaches("top"), self.book.touched("top")]:
            told.clear()
        self.assertEqual(len(self.book.all_cells()), 5)
        self.assertEqual(len(self.book.names()), 5)
        self.assertEqual(len(self.book.reaches("top")), 4)
        self.assertEqual(len(self.book.touched("top")), 4)

    def test_lists_that_are_handed_in_stay_apart(self):
        cells = list(CELLS)
        functions = list(FUNCTIONS)
        book = Book(functions=functions, cells=cells)
        cells.clear()
        functions.clear()
        self.assertEqual(book, self.book)
        self.assertEqual(Book(tuple(CELLS), tuple(FUNCTIONS)), self.book)

    def test_function_by_name(self):
        for function in FUNCTIONS:
            self.assertEqual(self.book[function.name], function)
        for value in oddities() + ["z", "other", ("leaf",), ["leaf"]]:
            self.assertIs(refused(self, UnknownName, lambda: self.book[value]).name, value)

    def test_in(self):
        for name in self.book.names():
            self.assertIs(name in self.book, True)
        for value in oddities() + ["z", "other", LEAF, ("leaf",)]:
            self.assertIs(value in self.book, False)

    def test_is_not_iterated(self):
        self.assertRaises(TypeError, iter, self.book)
        self.assertRaises(TypeError, list, self.book)

    def test_cell(self):
        for cell in CELLS:
            self.assertEqual(self.book.cell(name=cell.name), cell)
        for value in oddities() + ["leaf", "other", ("z",), Z]:
            self.assertIs(refused(self, UnknownName, lambda: self.book.cell(value)).name, value)

    def test_reaches(self):
        self.assertEqual(self.book.reaches("leaf"), ["leaf"])
        self.assertEqual(self.book.reaches("side"), ["side"])
        self.assertEqual(self.book.reaches("mid"), ["leaf", "side", "mid"])
        self.assertEqual(self.book.reaches(name="top"), ["leaf", "side", "mid", "top"])

    def test_touched(self):
        self.assertEqual(self.book.touched("lone"), [])
        self.assertEqual(self.book.touched("leaf"), ["s"])
        self.assertEqual(self.book.touched("side"), ["y"])
        self.assertEqual(self.book.touched("mid"), ["z", "s", "y"])
        self.assertEqual(self.book.touched(name="top"), ["z", "s", "k", "y"])

    def test_unknown_names(self):
        for value in oddities() + ["z", "other"]:
            self.assertIs(refused(self, UnknownName, lambda: self.book.reaches(value)).name, value)
            self.assertIs(refused(self, UnknownName, lambda: self.book.touched(value)).name, value)

    def test_equal(self):
        self.assertIs(self.book == Book(CELLS, FUNCTIONS), True)
        self.assertIs(self.book == Book(CELLS[::-1], FUNCTIONS), False)
        self.assertIs(self.book == Book(CELLS, [SIDE, LEAF, LONE, MID, TOP]), False)
        self.assertIs(self.book == Book(CELLS, FUNCTIONS[:4]), False)
        self.assertIs(self.book == Book(CELLS[:4], FUNCTIONS), False)
        self.assertIs(self.book == Book(CELLS, [LEAF.labelled("always")] + FUNCTIONS[1:]), False)
        for value in [None, "book", (CELLS, FUNCTIONS), object()]:
            self.assertIs(self.book == value, False)


class TestRefusedCells(unittest.TestCase):
    def test_no_list(self):
        for value in oddities() + [{}, {"z": Z}, Z, "zy"]:
            if not isinstance(value, (list, tuple)):
                self.assertIsNone(refused(self, BadCell, lambda: Book(value, None)).index)

    def test_first_that_does_not_fit(self):
        for value in oddities() + ["z", ("z", "table"), LEAF, Cell("z", "setting"), Cell("y", "table")]:
            self.assertEqual(refused(self, BadCell, lambda: Book([Z, Y, value, value], None)).index, 2)
        self.assertEqual(refused(self, BadCell, lambda: Book([None], None)).index, 0)

    def test_too_many(self):
        cells = [Cell(name, "table") for name in "abcdefg"]
        self.assertEqual(len(Book(cells[:6], [LONE]).all_cells()), 6)
        self.assertEqual(refused(self, TooMany, lambda: Book(cells, None)).limit, 6)
        self.assertEqual(refused(self, BadCell, lambda: Book(cells + [cells[0]], None)).index, 7)
        self.assertEqual(refused(self, BadCell, lambda: Book(cells + [None], None)).index, 7)


class TestRefusedFunctions(unittest.TestCase):
    def wrong(self, functions):
        return refused(self, BadFunction, lambda: Book(CELLS, functions)).index

    def test_no_list_or_empty(self):
        self.assertIsNone(self.wrong([]))
        self.assertIsNone(self.wrong(()))
        for value in oddities() + [{}, {"leaf": LEAF}, LEAF]:
            if not isinstance(value, (list, tuple)):
                self.assertIsNone(self.wrong(value))

    def test_no_function(self):
        for value in oddities() + ["leaf", Z, LEAF.name, Function]:
            self.assertEqual(self.wrong([LEAF, value, value]), 1)

    def test_names(self):
        self.assertEqual(self.wrong([LEAF, Function("z", 0, 1)]), 1)
        self.assertEqual(self.wrong([LEAF, SIDE, Function("leaf", 0, 1)]), 2)
        self.assertEqual(self.wrong([LEAF, LEAF]), 1)

    def test_cells_that_are_read(self):
        self.assertEqual(self.wrong([LEAF, Function("f", 0, ("plus", 1, ("cell", "q")))]), 1)
        self.assertEqual(self.wrong([LEAF, Function("f", 0, ("if", 0, ("cell", "leaf"), 1))]), 1)
        self.assertEqual(self.wrong([Function("f", 0, 0, writes=[("z", ("cell", "q"))])]), 0)
        for name in "zskyw":
            self.assertEqual(len(Book(CELLS, [Function("f", 0, ("cell", name))])), 1)

    def test_cells_that_are_written(self):
        for name in ["s", "k", "q", "leaf"]:
            self.assertEqual(self.wrong([LEAF, Function("f", 0, 0, writes=[("z", 0), (name, 0)])]), 1)
        self.assertEqual(len(Book(CELLS, [Function("f", 0, 0, writes=[("w", 0), ("z", 0), ("y", 0)])])), 1)

    def test_calls(self):
        self.assertEqual(self.wrong([LEAF, Function("f", 0, ("call", "leaf", ()))]), 1)
        self.assertEqual(self.wrong([LEAF, Function("f", 0, ("call", "leaf", (1, 2)))]), 1)
        self.assertEqual(self.wrong([LEAF, Function("f", 0, ("call", "f", ()))]), 1)
        self.assertEqual(self.wrong([LEAF, Function("f", 0, ("call", "none", ()))]), 1)
        self.assertEqual(self.wrong([LEAF, Function("f", 0, ("call", "z", ()))]), 1)
        self.assertEqual(self.wrong([Function("f", 0, ("call", "side", ())), SIDE]), 0)
        self.assertEqual(self.wrong([LEAF, Function("f", 0, ("if", 0, ("call", "side", ()), 0)), SIDE]), 1)
        self.assertEqual(self.wrong([LEAF, Function("f", 0, 0, writes=[("z", ("call", "leaf", ()))])]), 1)
        self.assertEqual(self.wrong([LEAF, Function("f", 0, ("call", "leaf", (("call", "leaf", ()),)))]), 1)

    def test_too_many(self):
        functions = [Function("f" + letter, 0, 1) for letter in "abcdefghi"]
        self.assertEqual(len(Book([], functions[:8])), 8)
        self.assertEqual(refused(self, TooMany, lambda: Book([], functions)).limit, 8)
        self.assertEqual(refused(self, BadFunction, lambda: Book([], functions + [None])).index, 9)


class TestOtherBooks(unittest.TestCase):
    def setUp(self):
        self.book = Book(CELLS, FUNCTIONS)

    def tearDown(self):
        self.assertEqual(self.book, Book(CELLS, FUNCTIONS))

    def test_with_function(self):
        other = self.book.with_function(function=MID.changed("result", ("arg", 0)))
        self.assertEqual(other.names(), self.book.names())
        self.assertEqual(other.all_cells(), CELLS)
        self.assertEqual(other["mid"].result, ("arg", 0))
        self.assertEqual(other.reaches("mid"), ["side", "mid"])
        self.assertEqual(self.book.with_function(LEAF), self.book)

    def test_with_function_refuses(self):
        for value in oddities() + ["leaf", Z]:
            self.assertIs(refused(self, BadFunction, lambda: self.book.with_function(value)).index, value)
        unknown = Function("other", 0, ("cell", "q"))
        self.assertEqual(refused(self, UnknownName, lambda: self.book.with_function(unknown)).name, "other")
        self.assertEqual(refused(self, UnknownName, lambda: self.book.with_function(Function("z", 0, 1))).name, "z")
        reading = Function("lone", 0, ("cell", "q"))
        self.assertEqual(refused(self, BadFunction, lambda: self.book.with_function(reading)).index, 2)
        wider = Function("leaf", 2, 1)
        self.assertEqual(refused(self, BadFunction, lambda: self.book.with_function(wider)).index, 3)

    def test_labelled(self):
        labels = {"top": "always", "leaf": Label("statement")}
        other = self.book.labelled(labels=labels)
        self.assertEqual(labels, {"top": "always", "leaf": Label("statement")})
        told = [other[name].label.name for name in other.names()]
        self.assertEqual(told, ["statement", "changing", "changing", "changing", "always"])
        self.assertEqual(other["top"].labelled("changing"), TOP)
        self.assertEqual(self.book.labelled({}), self.book)

    def test_labelled_refuses(self):
        wrong = {"top": None, "side": "low", "other": "always", "z": "always"}
        self.assertEqual(refused(self, UnknownName, lambda: self.book.labelled(wrong)).name, "other")
        for key in [None, 1, "z", ("leaf",)]:
            self.assertEqual(refused(self, UnknownName, lambda: self.book.labelled({key: "always"})).name, key)
        wrong = {"top": None, "side": "low", "leaf": "always"}
        self.assertEqual(refused(self, BadLabel, lambda: self.book.labelled(wrong)).label, "low")
        for value in oddities():
            self.assertIs(refused(self, BadLabel, lambda: self.book.labelled({"mid": value})).label, value)
