"""Point [22]: texts, and reading them back."""

import random
import unittest

import plain
import reference
from oddities import oddities
from refusals import refused
from steadycalls.books import Book
from steadycalls.cells import Cell
from steadycalls.errors import (
    BadCall, BadCell, BadFunction, BadMark, BadOrder, BadPart, BadText, TooMany,
)
from steadycalls.functions import Function
from steadycalls.plans import Plan
from steadycalls.statements import Statement
from steadycalls.terms import is_term
from steadycalls.texts import (
    read_book, read_plan, read_statement, read_term, write_book, write_plan, write_statement, write_term,
)

TERMS = [
    (0, "0"), (2, "2"), (("arg", 1), "arg 1"), (("cell", "tick"), "cell tick"), (("tick",), "tick"),
    (("plus", 1, ("arg", 0)), "plus 1 arg 0"), (("less", ("tick",), 2), "less tick 2"), (("same", 0, 0), "same 0 0"),
    (("if", ("cell", "if"), 1, ("plus", 0, 2)), "if cell if 1 plus 0 2"), (("call", "f", ()), "call f 0"),
    (("call", "call", (("call", "cell", (1,)), ("tick",))), "call call 2 call cell 1 1 tick"),
]
BOOK = Book([Cell("z", "table"), Cell("s", "setting"), Cell("k", "frozen")], [
    Function("up", 0, ("cell", "z"), writes=[("z", ("plus", ("cell", "z"), 1))], cost=99),
    Function("rate", 2, ("if", ("arg", 0), ("cell", "s"), ("call", "up", ())), label="session", cost=0),
])
BOOK_ROWS = [
    "cell z table", "cell s setting", "cell k frozen", "function up 0 changing 99", "result cell z", "write z plus cell z 1",
    "function rate 2 session 0", "result if arg 0 cell s call up 0",
]
TREE = ("or", (("is", ("rate", ("x", 1)), 2), ("not", ("and", (("is", ("up", ()), 0),)))))
STATEMENT = Statement(TREE, [(("rate", ("y", "x")), True), (("rate", (0, 2)), False)])
STATEMENT_ROWS = ["filter or 2 is rate 2 x 1 2 not and 1 is up 0 0", "output shown rate 2 y x", "output hidden rate 2 0 2"]
PLAN = Plan(BOOK, STATEMENT, orders=[(1, 0), (0,)], phases="filters", marks=["memo", "each", "each", "gone"], kept=True)
PLAN_ROWS = ["order 1 0", "order 0", "phases filters", "marks memo each each gone", "kept"]


def text(rows):
    return "\n".join(rows)


def marred_rows(row):
    """A row with blanks, words and signs that it must not have."""
    return ["", " ", row + " ", " " + row, row.replace(" ", "  ", 1) if " " in row else row + "  ", row + "\t", row.replace(" ", "\t", 1) + "\t",
            row + " 0 0", row + "\r", row + "#", "x" + row] + [row.upper()] * (row != row.upper())


class TestTerms(unittest.TestCase):
    def test_texts(self):
        for term, told in TERMS:
            self.assertEqual(write_term(term=term), told)
            self.assertEqual(read_term(arguments=2, text=told), term)

    def test_terms_by_chance(self):
        for seed in range(300):
            chance = random.Random(seed)
            term = reference.some_term(chance, plain.CELLS, [("f", 0), ("g", 2)], 2, 4)
            if is_term(term, 2):
                self.assertEqual(read_term(write_term(term), 2), term)

    def test_no_terms(self):
        for _, told in TERMS:
            for value in marred_rows(told) + [told + "\n", "\n" + told, told + " 1", told.rpartition(" ")[0]]:
                self.assertEqual(refused(self, BadText, lambda: read_term(value, 2)).index, 0)
        for value in ["3", "00", "01", "+1", "-1", "arg", "arg 2", "arg 00", "arg 01", "arg x", "cell", "cell 1", "cell abcdefghi", "tick 0",
                      "plus 1", "plus", "if 0 1", "call f", "call f 3 0 0 0", "call f 00", "call f 1", "call 0", "call f x", "times 1 1", "(1)",
                      "\u0661", "arg \u0661", "cell \u00e4", "x", "not 1", "0\n1"]:
            self.assertEqual(refused(self, BadText, lambda: read_term(value, 2)).index, 0)
        for value in oddities() + [b"0", 0, ("0",), ["0"]]:
            self.assertEqual(refused(self, BadText, lambda: read_term(value, 2)).index, 0)

    def test_arguments(self):
        self.assertEqual(read_term("arg 0", 1), ("arg", 0))
        for told, arguments in [("arg 0", 0), ("arg 1", 1), ("plus arg 0 arg 1", 1)]:
            self.assertEqual(refused(self, BadText, lambda: read_term(told, arguments)).index, 0)

    def test_depth_and_size(self):
        deep = ("less", 0, 1)
        for _ in range(6):
            deep = ("less", 0, deep)
        self.assertEqual(read_term(write_term(deep), 0), deep)
        self.assertEqual(refused(self, BadText, lambda: read_term("less 0 " + write_term(deep), 0)).index, 0)
        for words in ["if ", "plus ", "call f 1 ", "call f 2 "]:
            self.assertEqual(refused(self, BadText, lambda: read_term(words * 5000 + "0", 0)).index, 0)
        for words in ["not ", "and 1 ", "or 8 "]:
            self.assertEqual(refused(self, BadText, lambda: read_statement("filter " + words * 5000 + "is f 0 0")).index, 0)
        leaves = ["0", "1", "if 0 1 2", "if 2 1 0", "if 1 1 1", "less 0 1", "plus 1 2", "same 1 1"]
        self.assertEqual(len(balanced(leaves).split(" ")), 30)
        self.assertEqual(write_term(read_term(balanced(leaves), 0)), balanced(leaves))
        self.assertEqual(refused(self, BadText, lambda: read_term(balanced(leaves[:-1] + ["if 1 1 1"]), 0)).index, 0)
        self.assertEqual(refused(self, BadText, lambda: read_book("function f 0 always 1\nresult " + balanced(leaves[2:] + ["if 0 0 0"] * 2))).index, 1)


def balanced(texts):
    """The text of sums of the terms of some texts, two and two."""
    if len(texts) == 1:
        return texts[0]
    return "plus " + balanced(texts[:len(texts) // 2]) + " " + balanced(texts[len(texts) // 2:])


class TestBooks(unittest.TestCase):
    def test_texts(self):
        self.assertEqual(write_book(book=BOOK), text(BOOK_ROWS))
        self.assertEqual(read_book(text=text(BOOK_ROWS)), BOOK)
        one = Book([], [Function("f", 0, 1, label="always")])
        self.assertEqual(write_book(one), "function f 0 always 1\nresult 1")
        self.assertEqual(read_book("function f 0 always 1\nresult 1"), one)

    def test_books_by_chance(self):
        for seed in range(300):
            book = reference.some_book(seed)
            self.assertEqual(read_book(write_book(book)), book)

    def test_great_books(self):
        cells = [Cell("c" + letter, kind) for letter, kind in zip("abcdef", ["table", "setting", "frozen"] * 2)]
        deep = 0
        for _ in range(7):
            deep = ("plus", ("tick",), deep)
        functions = [Function("function"[:at + 1], 2, deep, label="changing", writes=[("ca", deep), ("cd", ("cell", "cf"))], cost=at * 14)
                     for at in range(8)]
        book = Book(cells, functions)
        self.assertEqual(read_book(write_book(book)), book)

    def test_no_strings(self):
        for value in oddities() + [b"cell z table", ["cell z table"]]:
            if not isinstance(value, str):
                self.assertIsNone(refused(self, BadText, lambda: read_book(value)).index)
        for value in ["", " ", "A", "\n"]:
            self.assertEqual(refused(self, BadText, lambda: read_book(value)).index, 0)

    def test_rows_that_have_no_form(self):
        for index, row in enumerate(BOOK_ROWS):
            for marred in marred_rows(row) + [row.rpartition(" ")[0], row + " 0"]:
                rows = BOOK_ROWS[:index] + [marred] + BOOK_ROWS[index + 1:]
                self.assertEqual(refused(self, BadText, lambda: read_book(text(rows))).index, index, marred)
        self.assertEqual(refused(self, BadText, lambda: read_book(text(BOOK_ROWS) + "\n")).index, 8)
        self.assertEqual(refused(self, BadText, lambda: read_book("\n" + text(BOOK_ROWS))).index, 0)
        self.assertEqual(refused(self, BadText, lambda: read_book("\r\n".join(BOOK_ROWS))).index, 0)

    def test_rows_that_may_not_stand_there(self):
        cell, head, result, write = "cell a table", "function f 0 always 1", "result 1", "write a 1"
        for rows, index in [([result], 0), ([write], 0), ([cell, result], 1), ([cell, write], 1), ([head, cell], 1), ([head, head], 1),
                            ([head, write], 1), ([head, result, cell], 2), ([head, result, result], 2), ([head, result, write, result], 3),
                            ([head, result, write, cell], 3), ([cell, head, result, write, "function g 0 always 1", write], 5)]:
            self.assertEqual(refused(self, BadText, lambda: read_book(text(rows))).index, index)

    def test_a_result_that_is_lacking(self):
        self.assertEqual(refused(self, BadText, lambda: read_book("function f 0 always 1")).index, 1)
        self.assertEqual(refused(self, BadText, lambda: read_book(text(BOOK_ROWS[:-1]))).index, 7)

    def test_what_does_not_fit_by_itself(self):
        good = ["cell z table", "function f 1 always 5", "result arg 0", "write z arg 0"]
        wrong = [
            (0, ["cell Z table", "cell abcdefghi table", "cell z1 table", "cell z setting table", "cell z fixed", "cell z Table", "cell z"]),
            (1, ["function F 1 always 5", "function f 3 always 5", "function f 01 always 5", "function f -1 always 5", "function f one always 5",
                 "function f 1 sometimes 5", "function f 1 always 05", "function f 1 always 100", "function f 1 always 00", "function f 1 always -1",
                 "function f 1 always", "function f 1 always five", "function f 1 5 always", "function f 1 always \u0665", "function f 1 always 5_0",
                 "function f 1 always +5", "function f \u0661 always 5", "function f 1 always 5 5"]),
            (2, ["result arg 1", "result 3", "result plus 0", "result", "result tick 0"]),
            (3, ["write z arg 1", "write Z 0", "write z", "write z plus 0", "write abcdefghi 0"]),
        ]
        for index, rows in wrong:
            for row in rows:
                told = good[:index] + [row] + good[index + 1:]
                self.assertEqual(refused(self, BadText, lambda: read_book(text(told))).index, index, row)
        for cost in [0, 9, 10, 99]:
            self.assertEqual(read_book(f"function f 0 always {cost}\nresult 0")["f"].cost, cost)

    def test_errors_behind_all_rows(self):
        head, four = ["cell a table", "function f 0 always 1", "result 1"], ["write a 1", "write b 1", "write c 1", "write d 1"]
        for writes in [four, ["write a 1", "write a 2"]]:
            self.assertEqual(refused(self, BadPart, lambda: read_book(text(head + writes))).part, "writes")
            self.assertEqual(refused(self, BadText, lambda: read_book(text(head + writes + ["end"]))).index, 3 + len(writes))
        self.assertEqual(refused(self, BadFunction, lambda: read_book(text(head + ["write b 1"]))).index, 0)
        self.assertEqual(refused(self, BadFunction, lambda: read_book(text(head + head[1:]))).index, 1)
        self.assertIsNone(refused(self, BadFunction, lambda: read_book("cell a table")).index)
        self.assertEqual(refused(self, BadCell, lambda: read_book(text(["cell a table"] * 2 + head))).index, 1)
        self.assertEqual(refused(self, BadText, lambda: read_book(text(["cell a table"] * 2 + ["cell"]))).index, 2)
        self.assertEqual(refused(self, BadFunction, lambda: read_book("function f 0 always 1\nresult call f 0")).index, 0)
        seven = [f"cell {letter} table" for letter in "bcdefgh"]
        self.assertEqual(refused(self, TooMany, lambda: read_book(text(seven + head[1:]))).limit, 6)
        nine = [row for letter in "abcdefghi" for row in [f"function {letter} 0 always 1", "result 0"]]
        self.assertEqual(refused(self, TooMany, lambda: read_book(text(nine))).limit, 8)


class TestStatements(unittest.TestCase):
    def test_texts(self):
        self.assertEqual(write_statement(statement=STATEMENT), text(STATEMENT_ROWS))
        self.assertEqual(read_statement(text=text(STATEMENT_ROWS)), STATEMENT)
        self.assertEqual([write_statement(Statement(None)), read_statement("filter none")], ["filter none", Statement(None)])
        named = Statement(("is", ("none", ("x",)), 0), [(("x", ("x", "y")), False), (("shown", ()), True)])
        self.assertEqual(write_statement(named), "filter is none 1 x 0\noutput hidden x 2 x y\noutput shown shown 0")
        self.assertEqual(read_statement(write_statement(named)), named)

    def test_statements_by_chance(self):
        for seed in range(300):
            statement = plain.some_statement(random.Random(seed), plain.BOOK, 8)
            self.assertEqual(read_statement(write_statement(statement)), statement)

    def test_deepest_trees(self):
        tree = ("is", ("f", ()), 1)
        for at in range(7):
            tree = ("not", tree) if at % 2 else ("and", (tree,))
        self.assertEqual(read_statement(write_statement(Statement(tree))), Statement(tree))
        deeper = "filter not " + write_statement(Statement(tree))[len("filter "):]
        self.assertEqual(refused(self, BadText, lambda: read_statement(deeper)).index, 0)
        eight = Statement(("or", (tree[1][0],) * 8))
        self.assertEqual(read_statement(write_statement(eight)), eight)

    def test_no_strings(self):
        for value in oddities() + [b"filter none"]:
            if not isinstance(value, str):
                self.assertIsNone(refused(self, BadText, lambda: read_statement(value)).index)
        for value in ["", " ", "A", "\n", "output shown f 0"]:
            self.assertEqual(refused(self, BadText, lambda: read_statement(value)).index, 0)

    def test_rows_that_have_no_form(self):
        for index, row in enumerate(STATEMENT_ROWS):
            for marred in marred_rows(row) + [row.rpartition(" ")[0], row + " 0", "filter none" if index else "filter"]:
                rows = STATEMENT_ROWS[:index] + [marred] + STATEMENT_ROWS[index + 1:]
                self.assertEqual(refused(self, BadText, lambda: read_statement(text(rows))).index, index, marred)
        self.assertEqual(refused(self, BadText, lambda: read_statement(text(STATEMENT_ROWS) + "\n")).index, 3)

    def test_wrong_words(self):
        for row in ["filter", "filter none none", "filter not", "filter is f 0", "filter is f 0 3", "filter is f 1 z 0", "filter is f 3 x x x 0",
                    "filter is f 00 0", "filter is F 0 0", "filter and 0", "filter and 9" + " is f 0 0" * 9, "filter and 01 is f 0 0",
                    "filter or 2 is f 0 0", "filter or 1 is f 0 0 is f 0 0", "filter not none", "filter f 0", "filter is f 1 3 0", "filter xor 1 is f 0 0"]:
            self.assertEqual(refused(self, BadText, lambda: read_statement(row + "\noutput")).index, 0)
        for row in ["output", "output shown", "output f 0", "output shown f", "output shown f 1", "output shown f 1 3", "output shown f 1 z",
                    "output shown f 3 x x x", "output shown f 2 x", "output true f 0", "output hidden f 0 0", "output hidden f -1", "filter none"]:
            self.assertEqual(refused(self, BadText, lambda: read_statement(f"filter none\noutput shown f 0\n{row}")).index, 2)

    def test_too_many_calls(self):
        eight = "filter and 8" + " is f 0 0" * 8
        self.assertEqual(len(read_statement(eight)), 8)
        for value in [eight + "\noutput shown f 0", "filter none" + "\noutput hidden f 0" * 9, "filter and 2" + eight[6:] + " is f 0 0"]:
            self.assertEqual(refused(self, TooMany, lambda: read_statement(value)).limit, 8)
        self.assertEqual(refused(self, BadText, lambda: read_statement("filter none" + "\noutput hidden f 0" * 9 + "\n")).index, 10)


class TestPlans(unittest.TestCase):
    def test_texts(self):
        self.assertEqual(write_plan(plan=PLAN), text(PLAN_ROWS))
        self.assertEqual(read_plan(text=text(PLAN_ROWS), statement=STATEMENT, book=BOOK), PLAN)
        empty = Plan(BOOK, Statement(None))
        self.assertEqual(write_plan(empty), "phases rows\nmarks\nfresh")
        self.assertEqual(read_plan(BOOK, Statement(None), "phases rows\nmarks\nfresh"), empty)

    def test_plans_by_chance(self):
        for seed in range(300):
            chance = random.Random(seed)
            statement = plain.some_statement(chance, plain.BOOK, 8)
            plan = plain.some_plan(chance, plain.BOOK, statement)
            self.assertEqual(read_plan(plain.BOOK, statement, write_plan(plan)), plan)

    def test_eight_parts(self):
        statement = Statement(("and", (("is", ("up", ()), 0),) * 8))
        plan = Plan(BOOK, statement, orders=[(7, 0, 6, 1, 5, 2, 4, 3)])
        self.assertEqual(write_plan(plan), "order 7 0 6 1 5 2 4 3\nphases rows\nmarks each each each each each each each each\nfresh")
        self.assertEqual(read_plan(BOOK, statement, write_plan(plan)), plan)

    def test_no_strings(self):
        for value in oddities() + [b"phases rows"]:
            if not isinstance(value, str):
                self.assertIsNone(refused(self, BadText, lambda: read_plan(BOOK, STATEMENT, value)).index)
        for value in ["", " ", "A", "\n"]:
            self.assertEqual(refused(self, BadText, lambda: read_plan(BOOK, STATEMENT, value)).index, 0)

    def test_rows_that_have_no_form(self):
        for index, row in enumerate(PLAN_ROWS):
            for marred in ["", " ", row + " ", " " + row, row.replace(" ", "  ") + "  ", row + "\t", row + " x", row.upper(), row + " -1", row + " 10"]:
                rows = PLAN_ROWS[:index] + [marred] + PLAN_ROWS[index + 1:]
                self.assertEqual(refused(self, BadText, lambda: read_plan(BOOK, STATEMENT, text(rows))).index, index, marred)

    def test_wrong_words(self):
        for index, rows in [(0, ["order 1 x", "order 01 0", "order 1 -0", "order 1  0", "order 1 0 10", "orders 1 0", "order \u0661 0"]),
                            (2, ["phases", "phases row", "phases rows rows", "phases filters 0", "filters", "marks", "kept"]),
                            (3, ["marks memo each each done", "marks Memo", "marks ", "mark", "marks 0", "kept", "order 0"]),
                            (4, ["keep", "kept kept", "fresh kept", "True", "marks", "phases rows"])]:
            for row in rows:
                told = PLAN_ROWS[:index] + [row] + PLAN_ROWS[index + 1:]
                self.assertEqual(refused(self, BadText, lambda: read_plan(BOOK, STATEMENT, text(told))).index, index, row)

    def test_rows_that_are_lacking_or_too_many(self):
        for many in range(2, 5):
            self.assertEqual(refused(self, BadText, lambda: read_plan(BOOK, STATEMENT, text(PLAN_ROWS[:many]))).index, many)
        for more in [[""], ["kept"], ["order 0"], ["fresh", "fresh"]]:
            self.assertEqual(refused(self, BadText, lambda: read_plan(BOOK, STATEMENT, text(PLAN_ROWS + more))).index, 5)
        self.assertEqual(refused(self, BadText, lambda: read_plan(BOOK, STATEMENT, text(PLAN_ROWS[:2] + PLAN_ROWS[3:]))).index, 2)

    def test_errors_as_of_plans(self):
        def read(index, row, *more):
            rows = PLAN_ROWS[:index] + [row] * (row is not None) + list(more) + PLAN_ROWS[index + 1:]
            return lambda: read_plan(BOOK, STATEMENT, text(rows))

        self.assertIsNone(refused(self, BadOrder, read(1, None)).index)
        self.assertIsNone(refused(self, BadOrder, read(1, "order 0", "order 0")).index)
        for row in ["order 0 0", "order 0 2", "order 0", "order 0 1 2", "order 9 8", "order"]:
            self.assertEqual(refused(self, BadOrder, read(0, row)).index, 0)
        for row in ["marks", "marks each", "marks each each each each each"]:
            self.assertIsNone(refused(self, BadMark, read(3, row)).index)
        self.assertEqual(refused(self, BadMark, read(3, "marks begin each each each")).index, 0)
        self.assertEqual(refused(self, BadMark, read(3, "marks each memo each each")).index, 1)
        self.assertEqual(refused(self, BadCall, lambda: read_plan(BOOK, Statement(("is", ("up", (1,)), 0)), text(PLAN_ROWS))).index, 0)
        self.assertEqual(refused(self, BadPart, lambda: read_plan(None, STATEMENT, text(PLAN_ROWS))).part, "book")
        self.assertEqual(refused(self, BadText, lambda: read_plan(None, None, "kept")).index, 0)
