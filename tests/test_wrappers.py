"""Point [14]: wrappers put in."""

import random
import unittest

import plain
import reference
from oddities import oddities
from refusals import refused
from steadycalls.books import Book
from steadycalls.cells import Cell
from steadycalls.errors import BadCall, UnknownName
from steadycalls.functions import Function
from steadycalls.plans import Plan
from steadycalls.plays import play
from steadycalls.statements import Statement
from steadycalls.wrappers import is_kept, is_wrapper, put_in

CELLS = [Cell("z", "table"), Cell("s", "setting")]
TWO = Function("two", 2, ("plus", ("arg", 0), ("plus", ("cell", "z"), ("arg", 1))), label="statement")
UP = Function("up", 0, ("cell", "z"), writes=[("z", ("plus", ("cell", "z"), 1))])
NOW = Function("now", 1, ("plus", ("tick",), ("arg", 0)))


def wrapping(name, arguments, called, *terms, label="changing", writes=()):
    return Function(name, arguments, ("call", called, terms), label=label, writes=writes)


BOOK = Book(CELLS, [
    TWO, UP, NOW, wrapping("w", 1, "two", ("arg", 0), 2, label="session"), wrapping("v", 2, "two", ("arg", 1), ("arg", 0)),
    wrapping("u", 0, "up"), wrapping("t", 2, "now", ("arg", 1), label="statement"), wrapping("ww", 1, "w", ("arg", 0), label="always"),
])


class TestIsWrapper(unittest.TestCase):
    def test_wrappers(self):
        told = [is_wrapper(name=name, book=BOOK) for name in BOOK.names()]
        self.assertEqual(told, [False] * 3 + [True] * 5)
        self.assertTrue(all(type(truth) is bool for truth in told))

    def test_no_wrappers(self):
        book = Book(CELLS, [
            TWO, UP, wrapping("a", 1, "two", ("arg", 0), ("cell", "z")), wrapping("b", 1, "two", ("tick",), 1),
            wrapping("c", 0, "up", writes=[("z", ("cell", "z"))]), wrapping("d", 0, "two", 1, ("plus", 1, 0)),
            wrapping("e", 0, "two", 1, ("call", "up", ())), Function("f", 0, ("if", 1, ("call", "up", ()), 0)),
        ])
        self.assertEqual([name for name in book.names() if is_wrapper(book, name)], [])
        self.assertIs(is_wrapper(Book([], [Function("f", 1, ("arg", 0))]), "f"), False)
        self.assertIs(is_wrapper(Book([], [Function("f", 0, 1)]), "f"), False)

    def test_refused(self):
        for value in oddities() + ["z", "other"]:
            self.assertIs(refused(self, UnknownName, lambda: is_wrapper(BOOK, value)).name, value)


class TestPutIn(unittest.TestCase):
    def setUp(self):
        self.tree = ("or", (("is", ("w", ("y",)), 1), ("not", ("and", (("is", ("w", ("y",)), 1), ("is", ("v", ("x", 0)), 2))))))
        self.statement = Statement(self.tree, [(("u", ()), False), (("t", (0, "x")), True), (("two", (1, 2)), True)])

    def test_calls(self):
        a, b = ("is", ("w", ("y",)), 1), ("is", ("v", ("x", 0)), 2)
        told = [
            (0, ("or", (("is", ("two", ("y", 2)), 1), ("not", ("and", (a, b)))))),
            (1, ("or", (a, ("not", ("and", (("is", ("two", ("y", 2)), 1), b)))))),
            (2, ("or", (a, ("not", ("and", (a, ("is", ("two", (0, "x")), 2))))))),
        ]
        for index, tree in told:
            self.assertEqual(put_in(index=index, statement=self.statement, book=BOOK), Statement(tree, self.statement.outputs))
        outputs = list(self.statement.outputs)
        self.assertEqual(put_in(BOOK, self.statement, 3), Statement(self.tree, [(("up", ()), False)] + outputs[1:]))
        self.assertEqual(put_in(BOOK, self.statement, 4), Statement(self.tree, outputs[:1] + [(("now", ("x",)), True)] + outputs[2:]))
        self.assertEqual(self.statement.condition, self.tree)
        self.assertEqual(put_in(BOOK, Statement(None, [(("ww", (1,)), True)]), 0), Statement(None, [(("w", (1,)), True)]))
        self.assertEqual(put_in(BOOK, Statement(("is", ("u", ()), 0)), 0), Statement(("is", ("up", ()), 0)))

    def test_is_kept(self):
        self.assertEqual([is_kept(BOOK, self.statement, index) for index in range(5)], [True, True, False, True, False])
        self.assertIs(is_kept(index=0, statement=Statement(None, [(("ww", (1,)), True)]), book=BOOK), True)

    def test_refused(self):
        for call in [put_in, is_kept]:
            for value in oddities() + [6, -1, 5, "0"]:
                if isinstance(value, bool) or not isinstance(value, int) or not 0 <= value < 5:
                    self.assertIs(refused(self, BadCall, lambda: call(BOOK, self.statement, value)).index, value)
            wrong = Statement(self.tree, [(("u", ()), False), (("w", ()), True)])
            self.assertEqual(refused(self, BadCall, lambda: call(BOOK, wrong, None)).index, 4)

    def test_labels_that_are_kept(self):
        """With both labels steady, or both changing, nothing else is seen."""
        kept = 0
        for seed in range(400):
            chance = random.Random(seed)
            labels = {name: chance.choice(["always", "session", "statement", "changing"]) for name in BOOK.names()}
            book = BOOK.labelled(labels)
            statement = plain.some_statement(chance, book, 6)
            for index, (name, _) in enumerate(statement.all_calls()):
                if is_wrapper(book, name):
                    inner = BOOK[name].result[1]
                    same = (labels[name] == "changing") == (labels[inner] == "changing")
                    self.assertIs(is_kept(book, statement, index), same)
                    other = put_in(book, statement, index)
                    self.assertEqual(len(other), len(statement))
                    state, table = reference.some_state(chance, book), plain.some_table(chance, 4)
                    seen = [play(Plan(book, one), state, table)[:2] for one in (statement, other)]
                    if same:
                        kept += 1
                        self.assertEqual(seen[0], seen[1])
        self.assertGreater(kept, 100)

    def test_labels_that_are_not(self):
        book = BOOK.labelled({"w": "changing"})
        statement = Statement(None, [(("w", (0,)), True), (("now", (0,)), True)])
        seen = [play(Plan(book, one), {"z": 1, "s": 0}, [(0, 0)])[0] for one in (statement, put_in(book, statement, 0))]
        self.assertEqual(seen, [[(0, 1)], [(0, 0)]])
        self.assertIs(is_kept(book, statement, 0), False)
