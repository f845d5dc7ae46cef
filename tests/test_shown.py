"""Points [3](b) and [12]: worlds in which plans are seen unlike."""

import itertools
import random
import unittest

import plain
from oddities import oddities
from refusals import refused
from steadycalls.alike import difference
from steadycalls.bodies import column_term, lookup, smallest_terms
from steadycalls.books import Book
from steadycalls.cells import Cell, is_state
from steadycalls.errors import BadCall, BadMark, BadPart, BadPlan, BadToken
from steadycalls.functions import Function
from steadycalls.plans import Plan
from steadycalls.plays import folded, play
from steadycalls.runs import run_alone
from steadycalls.shown import moved, shown_by
from steadycalls.statements import Statement
from steadycalls.terms import is_term, term_size
from steadycalls.truest import wrong_names
from test_alike import CH, MIXED, SE, ST, plan_of


class TestShown(unittest.TestCase):
    def check(self, one, other, value):
        """Look at a world that shows a difference; tell whether there is one."""
        told = shown_by(value=value, other=other, one=one)
        if told is None:
            return False
        self.assertEqual((type(told), len(told)), (tuple, 3))
        book, planning, state = told
        self.assertEqual(wrong_names(book), [])
        for name, first in itertools.zip_longest(book.names(), one.book.names()):
            self.assertEqual(name, first)
            new, old = book[name], one.book[first]
            self.assertEqual((new.arguments, new.label, new.cost), (old.arguments, old.label, old.cost))
        for cell in book.all_cells():
            if cell.kind == "frozen" or cell.kind == "setting" and not one.kept:
                self.assertEqual(planning[cell.name], state[cell.name])
        self.assertTrue(is_state(book.all_cells(), state) and is_state(book.all_cells(), planning))
        seen = []
        for plan in (one, other):
            new = moved(book=book, plan=plan)
            seen.append(play(new, state, value[0], folds=folded(new, planning))[:2])
        self.assertNotEqual(seen[0], seen[1])
        return True

    def must_show(self, one, other):
        value = difference(one, other)
        self.assertTrue(self.check(one, other, value))
        self.assertTrue(self.check(other, one, value))

    def test_unlike_calls(self):
        one = plan_of(("and", (("is", SE, 1), ("is", CH, 1))), [(ST, True)])
        self.must_show(one, one.changed("orders", [(1, 0)]))
        tree = ("and", (("is", ("up", ("x",)), 1), ("is", ("up", (1,)), 1)))
        one = plan_of(tree)
        self.must_show(one, one.changed("orders", [(1, 0)]))
        book = Book([], [Function("a", 0, 0), Function("b", 2, 0), Function("c", 2, 0, label="session")])
        tree = ("or", (("is", ("a", ()), 2), ("is", ("b", ("x", "y")), 0), ("is", ("b", ("y", 2)), 1), ("is", ("c", (1, "y")), 2)))
        one = Plan(book, Statement(tree))
        for order in itertools.permutations(range(4)):
            if [part for part in order if part < 3] != [0, 1, 2]:
                self.must_show(one, one.changed("orders", [order]))

    def test_unlike_answers(self):
        one = plan_of(None, [(ST, True)])
        self.must_show(one, one.marked(0, "fold"))
        one = plan_of(None, [(CH, True), (SE, True)], kept=True)
        self.must_show(one, one.marked(1, "fold"))
        one = plan_of(("is", SE, 1), kept=True)
        self.must_show(one, one.marked(0, "fold"))
        one = plan_of(("is", CH, 1), [(CH, True), (("al", ("x",)), True)])
        values = {("result", 0): 1, ("result", 1): 0, ("result", 2): 2, ("steady", "al", (0,)): 1}
        self.assertTrue(self.check(one, one.changed("phases", "filters"), ([(0, 0), (0, 0)], values)))

    def test_where_it_is_not_told(self):
        book = Book([], [Function("up", 0, 0), Function("st", 0, 0, label="statement")])
        up, st = ("up", ()), ("st", ())
        for many in range(6):
            tree = ("and", (("is", up, 1),) * many + (("is", up, 1), ("is", st, 1), ("is", up, 1)))
            one = Plan(book, Statement(tree))
            other = one.changed("orders", [tuple(range(many)) + (many, many + 2, many + 1)])
            values = {("result", at): 1 for at in range(many + 2)}
            values[("steady", "st", ())] = 0
            self.assertIs(self.check(one, other, ([(0, 0)], values)), many + 1 <= 2)
            outputs = [(up, True)] * many + [(st, True)]
            one = Plan(book, Statement(None, outputs))
            other = one.marked(many, "fold")
            values = {**values, ("folded", "st", ()): 1}
            self.assertIs(self.check(one, other, ([(0, 0)], values)), many <= 3)

    def test_terms_that_would_be_too_great(self):
        book = Book([], [Function("f", 2, 0, label="statement")])
        rows = list(itertools.product(range(3), repeat=2))
        outputs = [(("f", row), True) for row in rows[:7]] + [(("f", ("x", "y")), True)]
        one = Plan(book, Statement(None, outputs), marks=["fold"] * 7 + ["each"])
        now, planned = [2, 0, 2, 0, 1, 2, 1, 1, 0], [0, 2, 2, 2, 1, 2, 1]
        values = {("steady", "f", row): value for row, value in zip(rows, now)}
        values.update({("folded", "f", row): value for row, value in zip(rows, planned)})
        self.assertFalse(self.check(one, one.plain(), ([(2, 1), (2, 2)], values)))
        # With fewer values that must be told, a term is small enough.
        self.assertTrue(self.check(one, one.marked(0, "each"), ([(2, 1), (2, 2)], values)))
        self.assertTrue(self.check(one, one.plain(), ([(2, 1)], {**values, **{("folded", "f", row): 1 for row in rows}})))

    def test_other_tokens_may_be_there(self):
        one = plan_of(None, [(ST, True), (("al", (1,)), True), (SE, True)], kept=True)
        other = one.marked(0, "fold")
        values = {
            ("steady", "st", ()): 0, ("folded", "st", ()): 2, ("steady", "al", (1,)): 2, ("folded", "al", (1,)): 0,
            ("steady", "al", (0, 0)): 1, ("steady", "al", ()): 1, ("steady", "nobody", ()): 1, ("steady", "ch", ()): 1,
            ("folded", "se", ()): 0, ("steady", "se", ()): 1, ("result", 0): 1, ("result", 10 ** 20): 0,
        }
        self.assertTrue(self.check(one, other, ([(2, 2)], values)))
        self.assertTrue(self.check(one, other, (((2, 2), (0, 1)), values)))

    def test_names_of_functions_are_free(self):
        names = ["a", "b", "c", "d", "e", "f", "g", "h"]
        book = Book([], [Function(name, 0, 0, label=["changing", "statement"][place % 2], cost=place)
                         for place, name in enumerate(names)])
        tree = ("and", tuple(("is", (name, ()), 1) for name in names))
        one = Plan(book, Statement(tree), marks=["each", "fold"] * 4)
        self.must_show(one, one.changed("orders", [(1, 0, 2, 3, 4, 5, 6, 7)]))
        self.must_show(one, one.marked(1, "memo"))

    def test_plans_by_chance(self):
        shown = 0
        for seed in range(700):
            chance = random.Random(seed)
            names = [["al", "se", "up"], ["se", "st", "ch"], ["st", "se"], None][seed % 4]
            one = plain.some_plan(chance, plain.BOOK, plain.some_statement(chance, plain.BOOK, 5, names))
            other = plain.near_plan(chance, one)
            value = difference(one, other)
            if value is None:
                continue
            made = [plain.hear(plan, *value)[0] for plan in (one, other)]
            first = [at for at in range(9) if made[0][:at + 1] != made[1][:at + 1]]
            in_time = first[0] <= 2 if first else len(made[0]) <= 3
            told = self.check(one, other, value)
            shown += told
            self.assertTrue(in_time or not told)
            small = all(one.book[name].arguments < 2 for name, _ in one.statement.all_calls())
            self.assertTrue(told or not in_time or not small)
        self.assertGreater(shown, 50)

    def test_all_values_of_small_functions(self):
        """Never None where functions have at most one argument, whatever the values are."""
        book = Book([], [Function("f", 1, 0, label="statement"), Function("h", 1, 0)])
        outputs = [(("f", ("x",)), False), (("f", (0,)), False), (("f", (1,)), False), (("f", (2,)), True), (("h", ("x",)), True)]
        one = Plan(book, Statement(None, outputs), kept=True)
        other = one.marked(3, "fold")
        for told in itertools.product(range(3), repeat=6):
            values = {("steady", "f", (at,)): told[at] for at in range(3)}
            values.update({("folded", "f", (2,)): told[3], ("result", 0): told[4], ("result", 1): told[5]})
            if told[2] != told[3]:
                self.assertTrue(self.check(one, other, ([(0, 0), (2, 0)], values)))


class TestRefused(unittest.TestCase):
    def test_plans(self):
        one = plan_of(("is", SE, 1))
        for value in oddities() + [one.statement, MIXED]:
            self.assertIs(refused(self, BadPlan, lambda: shown_by(value, value, None)).plan, value)
            self.assertIs(refused(self, BadPlan, lambda: shown_by(one, value, None)).plan, value)
            self.assertIs(refused(self, BadPlan, lambda: shown_by(value, one, None)).plan, value)
        for other in [plan_of(("is", SE, 2)), one.changed("kept", True), Plan(MIXED.labelled({"ch": "session"}), one.statement)]:
            self.assertIs(refused(self, BadPlan, lambda: shown_by(one, other, None)).plan, other)

    def test_differences(self):
        one = plan_of(("is", ST, 1))
        other = one.marked(0, "fold")
        values = {("steady", "st", ()): 1, ("folded", "st", ()): 0}
        self.assertIsNotNone(shown_by(one, other, ([(0, 0)], values)))
        for value in oddities() + [[[(0, 0)], values], ([(0, 0)], {}), ([], values), ([(0, 0)] * 3, values),
                                   ([(0, 0)], {**values, ("folded", "st", ()): 1})]:
            self.assertIs(refused(self, BadToken, lambda: shown_by(one, other, value)).token, value)
        value = difference(one, other)
        self.assertIs(refused(self, BadToken, lambda: shown_by(one, one, value)).token, value)


class TestMoved(unittest.TestCase):
    def test_same_parts(self):
        one = plan_of(("or", (("is", SE, 1), ("is", ST, 1))), [(ST, False)], orders=[(1, 0)], phases="filters",
                      marks=["memo", "fold", "gone"], kept=True)
        book = Book([Cell("z", "table")], [Function("st", 0, ("cell", "z"), label="session"), Function("se", 0, 1, label="always")])
        told = moved(one, book)
        self.assertEqual((told.book, told.statement, told.orders, told.phases, told.marks, told.kept),
                         (book, one.statement, ((1, 0),), "filters", ("memo", "fold", "gone"), True))
        self.assertEqual(moved(book=MIXED, plan=told), one)

    def test_refused(self):
        one = plan_of(("or", (("is", SE, 1), ("is", ST, 1))), marks=["memo", "fold"])
        for value in oddities() + [MIXED]:
            self.assertEqual(refused(self, BadPart, lambda: moved(value, value)).part, "plan")
        for value in oddities() + [one]:
            self.assertEqual(refused(self, BadPart, lambda: moved(one, value)).part, "book")
        wider = MIXED.with_function(Function("st", 1, 0, label="statement"))
        self.assertEqual(refused(self, BadCall, lambda: moved(one, wider)).index, 1)
        self.assertEqual(refused(self, BadMark, lambda: moved(one, MIXED.labelled({"st": "changing"}))).index, 1)


class TestSmallTerms(unittest.TestCase):
    def value(self, term, arguments, tick=0):
        book = Book([], [Function("f", len(arguments), term)])
        return run_alone(book, "f", arguments, {}, tick=tick)[0]

    def test_columns(self):
        terms = smallest_terms(("arg", 0))
        self.assertEqual(sorted(terms), sorted(itertools.product(range(3), repeat=3)))
        for column, term in terms.items():
            self.assertEqual(tuple(self.value(term, [at]) for at in range(3)), column)
            self.assertLessEqual(term_size(term), 5)
        for values in [{}, {1: 2}, {0: 1, 2: 2}, {0: 2, 1: 2, 2: 0}]:
            term = column_term(("tick",), values)
            self.assertEqual([self.value(term, [], at) for at in values], list(values.values()))

    def test_two_arguments(self):
        rows = list(itertools.product(range(3), repeat=2))
        for seed in range(300):
            chance = random.Random(seed)
            values = {row: chance.randrange(3) for row in rows if chance.random() < 0.4 + seed % 3}
            term = lookup(2, values)
            self.assertTrue(is_term(term, 2))
            self.assertEqual({row: self.value(term, row) for row in values}, values)
        self.assertEqual((lookup(0, {(): 2}), lookup(0, {})), (2, 0))
