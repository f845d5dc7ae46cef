"""Points [9] and [15]: where wrong labels show."""

import random
import unittest

import plain
import reference
from oddities import oddities
from refusals import refused
from steadycalls.books import Book
from steadycalls.cells import Cell
from steadycalls.errors import BadCall, BadPart, BadState, BadTable, TooMany
from steadycalls.functions import Function
from steadycalls.lies import honest, is_lie, least_corrections, lie
from steadycalls.statements import Statement
from steadycalls.truest import truest, wrong_names
from test_statements import NO_TABLES

CELLS = [Cell("z", "table"), Cell("y", "table"), Cell("s", "setting"), Cell("k", "frozen")]
BLANK = {"z": 0, "y": 0, "s": 0, "k": 0}
Z = ("cell", "z")
UP = Function("up", 0, Z, writes=[("z", ("plus", Z, 1))])
TICK = ("tick",)


def book_of(*functions):
    return Book(CELLS, list(functions))


def outputs(*calls):
    return Statement(None, [(call, True) for call in calls])


class TestHonest(unittest.TestCase):
    def test_labels(self):
        book = book_of(
            UP.labelled("always"), Function("st", 0, Z, label="session"), Function("se", 0, ("cell", "s"), label="session"),
            Function("low", 0, 1, label="statement"), Function("al", 0, ("cell", "k"), label="always"),
        )
        told = honest(book=book)
        names = [told[name].label.name for name in told.names()]
        self.assertEqual(names, ["changing", "statement", "session", "statement", "always"])
        self.assertEqual(told, book.labelled({"up": "changing", "st": "statement"}))
        self.assertEqual(honest(told), told)

    def test_books_by_chance(self):
        for seed in range(60):
            book = reference.some_book(seed)
            labels = {name: truest(book, name).name for name in wrong_names(book)}
            self.assertEqual(honest(book), book.labelled(labels))
            self.assertEqual(wrong_names(honest(book)), [])


class TestLie(unittest.TestCase):
    def test_a_write_that_is_forgotten(self):
        book = book_of(UP.labelled("session"))
        self.assertEqual(lie(book, outputs(("up", ()))), ([(0, 0)], BLANK))
        self.assertIs(is_lie(state=BLANK, table=[(0, 0)], statement=outputs(("up", ())), book=book), True)
        self.assertIs(is_lie(book, outputs(("up", ())), [], BLANK), False)
        self.assertIsNone(lie(book, outputs(("up", ())), rows=0))

    def test_a_tick_shows_with_two_rows_alone(self):
        book = book_of(Function("now", 1, ("if", ("arg", 0), TICK, 0), label="always"))
        statement = outputs(("now", ("y",)))
        self.assertIsNone(lie(book, statement, rows=1))
        told = lie(rows=2, statement=statement, book=book)
        self.assertEqual(told, ([(0, 0), (0, 1)], BLANK))
        self.assertEqual([type(part) for part in told], [list, dict])
        self.assertEqual(lie(book, statement, rows=3), told)
        self.assertEqual(lie(book, statement), told)
        self.assertIs(is_lie(book, statement, [(0, 0), (0, 1)], BLANK), True)
        self.assertIs(is_lie(book, statement, ((0, 1), (0, 0)), BLANK), False)

    def test_three_rows(self):
        book = book_of(Function("now", 0, ("less", 1, TICK), label="statement"))
        statement = outputs(("now", ()))
        self.assertIsNone(lie(book, statement))
        self.assertEqual(lie(book, statement, rows=3), ([(0, 0)] * 3, BLANK))
        self.assertEqual(least_corrections(book, statement), [()])
        self.assertEqual(least_corrections(book, statement, rows=3), [("now",)])

    def test_first_state_of_what_is_touched(self):
        change = Function("ch", 1, ("less", 1, Z), label="statement", writes=[("z", ("if", ("same", ("arg", 0), 2), 0, Z))])
        told = lie(book_of(change), outputs(("ch", ("x",))))
        self.assertEqual(told, ([(2, 0)], {**BLANK, "z": 1}))
        self.assertEqual(list(told[1]), list(BLANK))
        self.assertIs(is_lie(book_of(change), outputs(("ch", ("x",))), [(2, 1)], {"z": 2, "y": 1, "s": 2, "k": 1}), True)

    def test_what_does_not_show(self):
        labels = Function("st", 0, Z, label="always")
        self.assertIsNone(lie(book_of(UP, labels), outputs(("up", ()), ("st", ()), ("up", ())), rows=3))
        self.assertIsNone(lie(book_of(UP.labelled("always"), Function("c", 0, 1)), outputs(("c", ())), rows=3))
        self.assertIsNone(lie(book_of(UP), outputs(("up", ()))))
        self.assertIsNone(lie(book_of(UP.labelled("always")), Statement(None)))

    def test_within_functions(self):
        book = book_of(UP.labelled("session"), Function("top", 0, ("call", "up", ()), label="changing"))
        self.assertEqual(lie(book, outputs(("top", ()))), ([(0, 0)], BLANK))
        self.assertEqual(least_corrections(book, outputs(("top", ()))), [("up",)])
        steady = book_of(UP.labelled("session"), Function("top", 0, ("call", "up", ()), label="session"))
        self.assertEqual(least_corrections(steady, outputs(("top", ()))), [("up", "top")])

    def test_least_corrections(self):
        wrong = [UP.labelled("always"), Function("now", 0, ("same", TICK, 1), label="always"), Function("st", 0, Z, label="always")]
        book = book_of(*wrong)
        self.assertEqual(least_corrections(rows=2, statement=outputs(("up", ()), ("now", ())), book=book), [("up", "now")])
        self.assertEqual(least_corrections(book, outputs(("st", ()))), [()])
        self.assertEqual(least_corrections(book, outputs(("up", ())), rows=0), [()])
        self.assertEqual(least_corrections(book, outputs(("up", ()))), [("up",)])
        self.assertEqual(least_corrections(honest(book), outputs(("up", ()), ("now", ()))), [()])

    def test_least_ones_alone(self):
        # Wrong, but with these arguments nothing of it shows but that it counts a tick.
        hidden = [Function(name, 1, ("if", ("arg", 0), TICK, 1), label="always") for name in ["ha", "hb"]]
        ticked = Function("tick", 0, ("less", 0, TICK))
        book = book_of(*hidden, UP.labelled("session"), ticked)
        both = outputs(("ha", (0,)), ("hb", (0,)), ("tick", ()))
        self.assertEqual(least_corrections(book, both, rows=1), [("ha",), ("hb",)])
        self.assertEqual(least_corrections(book, both), [("ha", "hb")])
        one = outputs(("up", ()), ("hb", (0,)))
        self.assertEqual(least_corrections(book, one), [("up",)])

    def test_calls_are_not_seen(self):
        now, one = Function("now", 0, TICK, label="always"), Function("one", 0, 1, label="always")
        tree = ("or", (("is", ("now", ()), 0), ("is", ("one", ()), 1)))
        book = book_of(now, one)
        self.assertIsNone(lie(book, Statement(tree), rows=3))
        self.assertIs(is_lie(book, Statement(tree), [(0, 0)] * 3, BLANK), False)
        self.assertEqual(least_corrections(book, Statement(tree), rows=3), [()])

    def test_as_the_document_says(self):
        shown = several = 0
        for seed in range(250):
            chance = random.Random(seed)
            book = reference.some_book(seed)
            if len(book.all_cells()) > 2:
                continue
            statement = plain.some_statement(chance, book, 3)
            rows = 2 if len(statement.columns()) < 2 else 1
            labels = {name: reference.truest_name(book, name) for name in wrong_names(book)}
            best = book.labelled(labels)
            told = lie(book, statement, rows=rows)
            self.assertEqual(told, plain.first_lie(book, best, statement, rows))
            if told is not None:
                shown += 1
                self.assertIs(is_lie(book, statement, *told), True)
            least = least_corrections(book, statement, rows=rows)
            several += len(least) > 1 or len(least[0]) > 1
            self.assertEqual(least, plain.least_corrections(book, labels, statement, rows))
            for _ in range(5):
                table, state = plain.some_table(chance), reference.some_state(chance, book)
                plans = [plain.Plan(one, statement) for one in (book, best)]
                seen = [plain.play(plan, state, table, {})[:2] for plan in plans]
                self.assertIs(is_lie(book, statement, table, state), seen[0] != seen[1])
        self.assertGreater(shown, 20)
        self.assertGreater(several, 2)


class TestGreat(unittest.TestCase):
    """Books of eight functions and six cells; where there are too many pairs."""

    def setUp(self):
        self.cells = [Cell("c" + letter, "table") for letter in "abcdef"]
        self.functions = [Function("f" + letter, 2, ("plus", ("arg", 0), ("cell", "c" + letter)), label="always")
                          for letter in "abcdef"]
        # Wrong, but nothing of it shows while both arguments are equal.
        tick = ("if", ("same", ("arg", 0), ("arg", 1)), 0, TICK)
        self.functions += [Function("fg", 2, tick, label="statement"), Function("fh", 1, ("arg", 0))]
        self.book = Book(self.cells, self.functions)
        self.blank = {cell.name: 0 for cell in self.cells}

    def statement(self, letters, second):
        calls = [("f" + letter, ("x", second)) for letter in letters] + [("fg", ("x", "x"))]
        return Statement(("or", tuple(("is", call, 1) for call in calls[:4])), [(call, True) for call in calls[4:]])

    def test_twenty_thousand_pairs(self):
        # 1 + 9 tables of at most one row, 91 of at most two; 729 states, or 243.
        six, five = self.statement("abcdef", "y"), self.statement("abcde", "y")
        self.assertIsNone(lie(self.book, six, rows=1))
        self.assertEqual(refused(self, TooMany, lambda: lie(self.book, six)).limit, 20000)
        self.assertEqual(refused(self, TooMany, lambda: least_corrections(self.book, five)).limit, 20000)
        # 1 + 3 + 9 tables with one column alone, then 27 more.
        self.assertIsNone(lie(self.book, self.statement("abcdef", 0)))
        self.assertEqual(refused(self, TooMany, lambda: lie(self.book, self.statement("abcdef", 0), rows=3)).limit, 20000)
        self.assertEqual(least_corrections(self.book, self.statement("abcd", 0), rows=3), [()])

    def test_a_book_without_wrong_labels(self):
        self.assertEqual(refused(self, TooMany, lambda: lie(honest(self.book), self.statement("abcdef", "y"))).limit, 20000)
        self.assertIsNone(lie(honest(self.book), self.statement("abcdef", "y"), rows=1))

    def test_a_lie_among_the_first_ones(self):
        tick = ("fg", ("x", "y"))
        statement = Statement(None, [(tick, True)] + list(self.statement("abcdef", "y").outputs))
        told = lie(self.book, statement, rows=3)
        self.assertEqual((len(told[0]), told[1]), (2, self.blank))
        self.assertIs(is_lie(self.book, statement, *told), True)
        self.assertEqual(least_corrections(self.book, Statement(None, [(tick, True)]), rows=3), [("fg",)])

    def test_the_last_pair_that_is_looked_at(self):
        """A lie at place 20000, on table 83 and state 74 of 243, is told; one behind it is not."""
        for last, told in [(1, True), (2, False)]:
            book, statement = self.late(last)
            pair = ([(2, 2), (0, 0)], {"ca": 0, "cb": 2, "cc": 2, "cd": 0, "ce": last})
            self.assertIs(is_lie(book, statement, *pair), True)
            if told:
                self.assertEqual(lie(book, statement), pair)
            else:
                self.assertEqual(refused(self, TooMany, lambda: lie(book, statement)).limit, 20000)

    def late(self, last):
        """A book and a statement that show nothing up to a first row (2, 2), and then in a late state."""
        term = ("cell", "ca")
        for name, value in [("cb", 2), ("cc", 2), ("cd", 0), ("ce", last)]:
            term = ("if", ("same", ("cell", name), value), term, 0)
        liar = Function("liar", 2, ("if", ("same", ("arg", 0), ("arg", 1)), TICK, term), label="statement")
        both = ("if", ("same", ("arg", 0), 2), ("same", ("arg", 1), 2), 0)
        change = Function("change", 2, 0, writes=[("ca", ("if", both, 1, ("cell", "ca")))])
        statement = Statement(None, [(("liar", (0, 1)), True), (("change", ("x", "y")), False)])
        return Book(self.cells[:5], [liar, change]), statement


class TestRefused(unittest.TestCase):
    def setUp(self):
        self.book = book_of(UP.labelled("always"))
        self.statement = outputs(("up", ()))
        self.wrong = outputs(("up", ()), ("up", (1,)))

    def test_calls(self):
        for call in [lambda: lie(self.book, self.wrong, rows=None), lambda: least_corrections(self.book, self.wrong, rows=None),
                     lambda: is_lie(self.book, self.wrong, None, None)]:
            self.assertEqual(refused(self, BadCall, call).index, 1)

    def test_rows(self):
        for value in oddities() + [4, -1, True, "2", None]:
            if isinstance(value, bool) or not isinstance(value, int) or not 0 <= value <= 3:
                for call in [lie, least_corrections]:
                    self.assertEqual(refused(self, BadPart, lambda: call(self.book, self.statement, rows=value)).part, "rows")
        self.assertRaises(TypeError, lie, self.book, self.statement, 2)
        self.assertRaises(TypeError, least_corrections, self.book, self.statement, 2)

    def test_states_and_tables(self):
        for value in oddities() + [{}, {**BLANK, "more": 0}]:
            self.assertIsNone(refused(self, BadState, lambda: is_lie(self.book, self.statement, None, value)).name)
        caught = refused(self, BadState, lambda: is_lie(self.book, self.statement, None, {**BLANK, "y": 3}))
        self.assertEqual(caught.name, "y")
        for value in oddities() + NO_TABLES:
            if not isinstance(value, (list, tuple)):
                self.assertIsNone(refused(self, BadTable, lambda: is_lie(self.book, self.statement, value, BLANK)).index)
        self.assertEqual(refused(self, BadTable, lambda: is_lie(self.book, self.statement, [(0, 0), None], BLANK)).index, 1)
        self.assertEqual(refused(self, TooMany, lambda: is_lie(self.book, self.statement, [(0, 0)] * 7, BLANK)).limit, 6)
