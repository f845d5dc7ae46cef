"""Point [23]: the console."""

import random
import unittest

import reference
from oddities import oddities
from refusals import refused
from steadycalls.books import Book
from steadycalls.cells import Cell
from steadycalls.console import Console
from steadycalls.errors import BadArguments, BadFunction, BadLine, BadPart, NothingToUndo, UnknownName
from steadycalls.functions import Function
from steadycalls.sessions import Session
from steadycalls.texts import read_book

Z = ("cell", "z")
CELLS = [Cell("z", "table"), Cell("s", "setting")]
UP = Function("up", 0, ("plus", Z, 1), label="always", writes=[("z", ("plus", Z, 2))])
RATE = Function("rate", 2, ("plus", ("arg", 0), ("plus", ("arg", 1), ("cell", "s"))), label="session")
LATE = Function("late", 1, ("plus", ("tick",), ("call", "up", ())))
BOOK = Book(CELLS, [UP, RATE, LATE])
LINES = ["book", "labels", "truest up", "wrong", "run up", "run rate 1 2", "relabel up session", "kind s frozen", "drop late", "raise", "undo"]


class TestConsole(unittest.TestCase):
    def setUp(self):
        self.console = Console(BOOK)

    def check(self, line, told):
        self.assertEqual(self.console.answer(line), told)

    def test_session(self):
        self.assertIsInstance(self.console.session, Session)
        self.assertEqual((Console(book=BOOK).session.current(), len(self.console.session)), (BOOK, 0))

    def test_book(self):
        self.check("book", "cell z table\ncell s setting\nfunction up 0 always 1\nresult plus cell z 1\nwrite z plus cell z 2\n"
                           "function rate 2 session 1\nresult plus arg 0 plus arg 1 cell s\nfunction late 1 changing 1\nresult plus tick call up 0")
        self.assertEqual(read_book(self.console.answer("book")), BOOK)

    def test_labels(self):
        self.check("labels", "always session changing")
        self.assertEqual(Console(Book([], [Function("f", 0, 0)])).answer("labels"), "changing")

    def test_truest(self):
        for name, told in [("up", "changing"), ("rate", "session"), ("late", "changing")]:
            self.check("truest " + name, told)
        self.assertEqual(Console(Book([], [Function("f", 0, 0)])).answer(line="truest f"), "always")

    def test_wrong(self):
        self.check("wrong", "up")
        self.check("relabel rate always", "ok")
        self.check("wrong", "up rate")
        self.check("raise", "ok")
        self.check("wrong", "none")
        self.assertEqual(Console(Book(CELLS, [Function("none", 0, Z, label="always")])).answer("wrong"), "none")

    def test_run(self):
        self.check("run up", "1 2 0")
        self.check("run rate 1 1", "2 0 0")
        self.check("run rate 2 2", "1 0 0")
        self.check("run late 0", "1 2 0")
        self.assertEqual(Console(Book([], [Function("f", 1, ("arg", 0))])).answer("run f 2"), "2")
        # It changes nothing.
        self.check("run up", "1 2 0")
        self.assertEqual(len(self.console.session), 0)

    def test_changes(self):
        session = self.console.session
        for steps, (line, book) in enumerate([
            ("relabel up session", BOOK.labelled({"up": "session"})),
            ("kind s frozen", Book([CELLS[0], Cell("s", "frozen")], [UP.labelled("session"), RATE, LATE])),
            ("drop late", Book([CELLS[0], Cell("s", "frozen")], [UP.labelled("session"), RATE])),
            ("raise", Book([CELLS[0], Cell("s", "frozen")], [UP.labelled("changing"), RATE.labelled("always")])),
            ("raise", Book([CELLS[0], Cell("s", "frozen")], [UP.labelled("changing"), RATE.labelled("always")])),
        ], 1):
            self.check(line, "ok")
            self.assertEqual((session.current(), len(session)), (book, steps))
        for steps in range(4, -1, -1):
            self.check("undo", "ok")
            self.assertEqual(len(session), steps)
        self.assertEqual(session.current(), BOOK)
        self.assertIs(session, self.console.session)

    def test_it_goes_by_its_session(self):
        self.console.session.drop("late")
        self.check("labels", "always session")
        self.console.session.undo()
        self.check("labels", "always session changing")
        self.check("drop late", "ok")
        with self.console.session.trial():
            self.check("undo", "ok")
        self.check("labels", "always session")

    def test_books_by_chance(self):
        for seed in range(60):
            book = reference.some_book(seed)
            console = Console(book)
            truest = [reference.truest_name(book, name) for name in book.names()]
            self.assertEqual(console.answer("labels"), " ".join(book[name].label.name for name in book.names()))
            self.assertEqual([console.answer("truest " + name) for name in book.names()], truest)
            order = ["changing", "statement", "session", "always"]
            wrong = [name for name, label in zip(book.names(), truest) if order.index(book[name].label.name) > order.index(label)]
            self.assertEqual(console.answer("wrong"), " ".join(wrong or ["none"]))
            chance = random.Random(seed)
            for name in book.names():
                arguments = [chance.randrange(3) for _ in range(book[name].arguments)]
                state = {cell.name: 0 for cell in book.all_cells()}
                value = reference.run(book, name, arguments, state, 0)
                told = " ".join(str(part) for part in [value] + list(state.values()))
                self.assertEqual(console.answer(" ".join(["run", name] + [str(given) for given in arguments])), told)
            console.answer("raise")
            self.assertEqual(console.answer("labels"), " ".join(truest))

    def test_great_books(self):
        cells = [Cell("c" + letter, "table") for letter in "abcdef"]
        functions = [Function("f" + letter, 2, ("cell", "c" + cell), writes=[("c" + cell, ("arg", 1))]) for letter, cell in zip("abcdefgh", "abcdefab")]
        console = Console(Book(cells, functions))
        self.assertEqual(console.answer("run fb 1 2"), "0 0 2 0 0 0 0")
        self.assertEqual(read_book(console.answer("book")), Book(cells, functions))
        self.assertEqual(console.answer("raise"), "ok")


class TestRefused(unittest.TestCase):
    def setUp(self):
        self.console = Console(BOOK)
        self.console.answer("relabel rate always")

    def tearDown(self):
        """Behind an error nothing has changed."""
        session = self.console.session
        self.assertEqual((session.current(), len(session)), (BOOK.labelled({"rate": "always"}), 1))

    def test_books(self):
        for value in oddities() + [CELLS]:
            self.assertEqual(refused(self, BadPart, lambda: Console(value)).part, "book")

    def test_lines(self):
        wrong = [" ", "\n", "run", "truest", "drop", "relabel", "kind", "relabel up", "relabel always", "relabel up steady", "relabel Up always",
                 "relabel up always always", "kind s", "kind s always", "kind frozen", "kind S frozen", "drop Up", "drop abcdefghi", "truest 1",
                 "run 1", "run up 3", "run rate 1 x", "run rate 12", "run rate 01 1", "run rate -1 1", "run Up", "run rate 1  1", "run rate \u0661 1",
                 "wrong up", "labels up", "book up", "raise up", "undo 1", "Book", "help", "put", "attempt", "relabel up Always", "run  up", "exit"]
        wrong += [line.replace(" ", "  ") for line in LINES if " " in line]
        for line in LINES:
            wrong += [line + " ", " " + line, line + "\n", "\n" + line, line + "\t", line.upper(), line + " x", "x" + line, line + "\r"]
            if line not in ("run up",):
                wrong.append(line + " up")
        for value in oddities() + wrong + [b"book", ["book"], ("undo",)]:
            self.assertIs(refused(self, BadLine, lambda: self.console.answer(value)).line, value)

    def test_names(self):
        for line in ["truest z", "run z", "run nothing 1 2", "relabel z always", "drop s", "kind up frozen"]:
            self.assertEqual(refused(self, UnknownName, lambda: self.console.answer(line)).name, line.split(" ")[1])

    def test_other_errors(self):
        for line in ["run rate 1", "run up 1", "run rate", "run late", "run rate 1 1 1"]:
            refused(self, BadArguments, lambda: self.console.answer(line))
        self.assertEqual(refused(self, BadFunction, lambda: self.console.answer("drop up")).index, 1)
        self.assertEqual(refused(self, BadFunction, lambda: self.console.answer("kind z frozen")).index, 0)
        self.console.answer("undo")
        self.assertEqual(refused(self, NothingToUndo, lambda: self.console.answer("undo")).name, "undo")
        self.console.answer("relabel rate always")
