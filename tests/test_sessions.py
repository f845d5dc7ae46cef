"""Point [23]: sessions."""

import random
import unittest

import reference
from oddities import oddities
from refusals import refused
from steadycalls.books import Book
from steadycalls.cells import Cell
from steadycalls.errors import BadFunction, BadLabel, BadPart, NothingToUndo, TooMany, UnknownName
from steadycalls.functions import Function
from steadycalls.labels import Label
from steadycalls.sessions import Session
from steadycalls.truest import truest_book

Z = ("cell", "z")
CELLS = [Cell("z", "table"), Cell("s", "setting")]
UP = Function("up", 0, Z, label="always", writes=[("z", ("plus", Z, 1))])
RATE = Function("rate", 1, ("plus", ("arg", 0), ("cell", "s")))
TOP = Function("top", 0, ("call", "rate", (1,)), label="statement")
BOOK = Book(CELLS, [UP, RATE, TOP])


class TestSession(unittest.TestCase):
    def setUp(self):
        self.session = Session(BOOK)

    def check(self, book, steps):
        self.assertEqual((self.session.current(), len(self.session)), (book, steps))

    def test_new(self):
        self.check(BOOK, 0)
        self.assertEqual(Session(book=BOOK).current(), BOOK)

    def test_put(self):
        rate = RATE.changed("cost", 9)
        self.assertIsNone(self.session.put(rate))
        self.check(Book(CELLS, [UP, rate, TOP]), 1)
        more = Function("more", 0, ("call", "top", ()))
        self.assertIsNone(self.session.put(function=more))
        self.check(Book(CELLS, [UP, rate, TOP, more]), 2)
        self.session.put(more)
        self.check(Book(CELLS, [UP, rate, TOP, more]), 3)

    def test_drop(self):
        self.assertIsNone(self.session.drop("top"))
        self.session.drop(name="up")
        self.check(Book(CELLS, [RATE]), 2)

    def test_relabel(self):
        self.assertIsNone(self.session.relabel("up", "changing"))
        self.session.relabel(label=Label("session"), name="rate")
        self.check(BOOK.labelled({"up": "changing", "rate": "session"}), 2)
        self.session.relabel("rate", "session")
        self.check(BOOK.labelled({"up": "changing", "rate": "session"}), 3)

    def test_raise_all(self):
        self.assertIsNone(self.session.raise_all())
        self.check(BOOK.labelled({"up": "changing", "rate": "session", "top": "session"}), 1)
        self.session.raise_all()
        self.check(truest_book(BOOK), 2)

    def test_change_cell(self):
        self.assertIsNone(self.session.change_cell("s", "table"))
        self.check(Book([CELLS[0], Cell("s", "table")], [UP, RATE, TOP]), 1)
        self.session.change_cell(kind="frozen", name="s")
        self.session.change_cell("s", "frozen")
        self.check(Book([CELLS[0], Cell("s", "frozen")], [UP, RATE, TOP]), 3)

    def test_rebook(self):
        other = Book([], [Function("f", 0, 0)])
        self.assertIsNone(self.session.rebook(other))
        self.check(other, 1)
        self.session.rebook(book=other)
        self.check(other, 2)

    def test_undo(self):
        books = [self.session.current()]
        for change in [lambda: self.session.drop("top"), lambda: self.session.relabel("up", "always"), lambda: self.session.raise_all(),
                       lambda: self.session.change_cell("s", "frozen"), lambda: self.session.put(TOP), lambda: self.session.rebook(BOOK)]:
            change()
            books.append(self.session.current())
        for steps in range(6, 0, -1):
            self.check(books[steps], steps)
            self.assertIsNone(self.session.undo())
        self.check(BOOK, 0)
        self.assertEqual(refused(self, NothingToUndo, self.session.undo).name, "undo")
        self.session.drop("top")
        self.check(Book(CELLS, [UP, RATE]), 1)

    def test_books_stay_as_they_are(self):
        ahead = self.session.current()
        self.session.drop("top")
        self.assertEqual(ahead, BOOK)
        self.assertEqual(ahead.names(), ["up", "rate", "top"])

    def test_sessions_by_chance(self):
        refusals = 0
        for seed in range(80):
            chance = random.Random(seed)
            session = Session(reference.some_book(seed))
            ahead = [session.current()]
            for _ in range(12):
                book = session.current()
                name = chance.choice(book.names() + ["none"])
                cell = chance.choice([one.name for one in book.all_cells()] + ["none"])
                calls = [lambda: session.drop(name), lambda: session.relabel(name, chance.choice(["always", "session", "wrong"])),
                         lambda: session.change_cell(cell, chance.choice(["frozen", "setting", "table", "wrong"])), session.raise_all, session.undo,
                         lambda: session.put(Function(name, chance.randrange(2), 0)), lambda: session.rebook(reference.some_book(seed + 1))]
                call = chance.choice(calls)
                try:
                    call()
                except (BadFunction, BadLabel, BadPart, NothingToUndo, UnknownName):
                    refusals += 1
                else:
                    ahead = ahead[:-1] if call == session.undo else ahead + [session.current()]
                self.assertEqual((session.current(), len(session)), (ahead[-1], len(ahead) - 1))
        self.assertGreater(refusals, 100)


class TestAttempts(unittest.TestCase):
    def setUp(self):
        self.session = Session(BOOK)
        self.session.drop("top")
        self.session.raise_all()
        self.book = self.session.current()

    def tearDown(self):
        """The session is as it was ahead of it, its steps, too."""
        self.assertEqual((self.session.current(), len(self.session)), (self.book, 2))
        self.session.undo()
        self.assertEqual(self.session.current(), Book(CELLS, [UP, RATE]))
        self.session.undo()
        self.assertEqual(self.session.current(), BOOK)
        refused(self, NothingToUndo, self.session.undo)

    def change(self, session):
        session.undo()
        session.undo()
        session.put(Function("more", 0, 2))
        session.relabel("up", "session")
        self.assertEqual((session.current().names(), len(session)), (["up", "rate", "top", "more"], 2))

    def test_attempt(self):
        told = []

        def visit(session):
            self.assertIs(session, self.session)
            self.change(session)
            told.append(session.current())
            return told

        self.assertIs(self.session.attempt(visit), told)
        self.assertEqual(len(told), 1)
        self.assertIsNone(self.session.attempt(visitor=self.change))

    def test_attempt_with_an_error(self):
        def visit(session):
            self.change(session)
            session.drop("nothing")

        self.assertEqual(refused(self, UnknownName, lambda: self.session.attempt(visit)).name, "nothing")

        def leave(session):
            self.change(session)
            raise KeyboardInterrupt

        refused(self, KeyboardInterrupt, lambda: self.session.attempt(leave))

    def test_trial(self):
        with self.session.trial() as session:
            self.assertIs(session, self.session)
            self.change(session)

    def test_trial_with_an_error(self):
        for error in [ValueError("x"), KeyboardInterrupt(), GeneratorExit()]:
            with self.assertRaises(type(error)) as caught:
                with self.session.trial() as session:
                    self.change(session)
                    raise error
            self.assertIs(caught.exception, error)

    def test_trial_begins_with_its_with(self):
        trial = self.session.trial()
        self.session.drop("rate")
        with trial as session:
            self.change_back(session)
        self.assertEqual(self.session.current().names(), ["up"])
        self.session.undo()

    def change_back(self, session):
        while len(session) > 0:
            session.undo()

    def test_one_within_another(self):
        def visit(session):
            session.relabel("rate", "always")
            within = session.current()
            with session.trial() as same:
                self.change_back(same)
                with same.trial():
                    same.rebook(Book([], [Function("f", 0, 0)]))
                    self.assertEqual(same.attempt(len), 1)
                self.assertEqual((same.current(), len(same)), (BOOK, 0))
            self.assertEqual((session.current(), len(session)), (within, 3))
            refused(self, UnknownName, lambda: session.attempt(lambda one: one.drop("more")))
            session.attempt(self.change_back)
            self.assertEqual((session.current(), len(session)), (within, 3))
            return within

        self.assertEqual(self.session.attempt(visit)["rate"].label.name, "always")

    def test_an_error_from_within(self):
        def visit(session):
            with session.trial():
                self.change_back(session)
                session.attempt(lambda one: one.undo())

        self.assertEqual(refused(self, NothingToUndo, lambda: self.session.attempt(visit)).name, "undo")


class TestRefused(unittest.TestCase):
    def setUp(self):
        self.session = Session(BOOK)
        self.session.relabel("rate", "always")

    def tearDown(self):
        """Behind an error nothing has changed."""
        self.assertEqual((self.session.current(), len(self.session)), (BOOK.labelled({"rate": "always"}), 1))

    def test_books(self):
        for value in oddities() + [CELLS, UP, self.session]:
            self.assertEqual(refused(self, BadPart, lambda: Session(value)).part, "book")
            self.assertEqual(refused(self, BadPart, lambda: self.session.rebook(value)).part, "book")

    def test_put(self):
        for value in oddities() + ["up", BOOK]:
            self.assertIs(refused(self, BadFunction, lambda: self.session.put(value)).index, value)
        wrong = [(Function("more", 0, ("cell", "k")), 3), (Function("z", 0, 0), 3), (Function("rate", 0, 0), 2), (Function("up", 0, ("call", "rate", (0,))), 0),
                 (Function("up", 0, 0, writes=[("s", 0)]), 0)]
        for function, index in wrong:
            self.assertEqual(refused(self, BadFunction, lambda: self.session.put(function)).index, index)

    def test_put_too_many(self):
        cells = [Cell("c" + letter, "table") for letter in "abcdef"]
        session = Session(Book(cells, [Function("f" + letter, 2, ("cell", "cf")) for letter in "abcdefgh"]))
        self.assertEqual(refused(self, TooMany, lambda: session.put(Function("more", 0, 0))).limit, 8)
        session.put(Function("fh", 0, 0))
        session.raise_all()
        self.assertEqual([len(session), len(session.current())], [2, 8])

    def test_drop(self):
        for value in oddities() + ["z", "more"]:
            self.assertIs(refused(self, UnknownName, lambda: self.session.drop(value)).name, value)
        self.assertEqual(refused(self, BadFunction, lambda: self.session.drop("rate")).index, 1)
        self.assertIsNone(refused(self, BadFunction, lambda: Session(Book([], [TOP.changed("result", 0)])).drop("top")).index)

    def test_relabel(self):
        for value in oddities() + ["z", "more"]:
            self.assertIs(refused(self, UnknownName, lambda: self.session.relabel(value, None)).name, value)
            self.assertIs(refused(self, BadLabel, lambda: self.session.relabel("up", value)).label, value)

    def test_change_cell(self):
        for value in oddities() + ["up", "more"]:
            self.assertIs(refused(self, UnknownName, lambda: self.session.change_cell(value, None)).name, value)
        for value in oddities() + ["always", "tables"]:
            self.assertEqual(refused(self, BadPart, lambda: self.session.change_cell("z", value)).part, "kind")
        for kind in ["setting", "frozen"]:
            self.assertEqual(refused(self, BadFunction, lambda: self.session.change_cell("z", kind)).index, 0)
