"""Points [8], [11] and [12]: plays of plans."""

import inspect
import random
import unittest

import plain
import reference
from oddities import oddities
from refusals import refused
from steadycalls.books import Book
from steadycalls.cells import Cell
from steadycalls.errors import BadState, BadTable, BadToken, TooMany
from steadycalls.functions import Function
from steadycalls.plans import Plan
from steadycalls.plays import folded, play, sights
from steadycalls.statements import Statement
from test_statements import NO_TABLES

Z = ("cell", "z")
BOOK = Book([Cell("z", "table"), Cell("s", "setting")], [
    Function("look", 1, ("plus", ("arg", 0), Z), label="statement"),
    Function("rate", 0, ("cell", "s"), label="session"),
    Function("up", 0, Z, writes=[("z", ("plus", Z, 1))]),
    Function("tick", 1, ("plus", ("arg", 0), ("tick",))),
])
START = {"z": 0, "s": 1}
LOOK_X, LOOK_ONE, RATE, UP, TICK_X = ("look", ("x",)), ("look", (1,)), ("rate", ()), ("up", ()), ("tick", ("x",))
ROWS = [(0, 0), (1, 0), (2, 0)]
SEEDS = 200


def plan_of(condition, outputs=(), **parts):
    return Plan(BOOK, Statement(condition, outputs), **parts)


class TestPlay(unittest.TestCase):
    def test_answers(self):
        plan = plan_of(("is", LOOK_X, 1), [(LOOK_X, True), (RATE, False), (LOOK_ONE, True)])
        self.assertEqual(play(plan, START, ROWS)[0], [(1, 1)])
        self.assertEqual(play(plan, {"z": 2, "s": 1}, ROWS * 2)[0], [(1, 0), (1, 0)])
        self.assertEqual(play(plan, START, [])[0], [])
        self.assertEqual(play(plan_of(None, [(LOOK_X, True)]), START, ROWS)[0], [(0,), (1,), (2,)])
        self.assertEqual(play(plan_of(None), START, ROWS)[0], [(), (), ()])
        self.assertEqual(play(plan_of(None, [(LOOK_X, False)]), START, ROWS)[0], [(), (), ()])

    def test_calls_by_labels(self):
        plan = plan_of(None, [(UP, True), (LOOK_X, True), (UP, True), (TICK_X, True)])
        answers, state, calls = play(plan, START, [(0, 0), (1, 0)])
        self.assertEqual(answers, [(0, 0, 1, 2), (2, 1, 0, 0)])
        self.assertEqual(state, {"z": 1, "s": 1})
        made = [("up", ()), ("look", (0,)), ("up", ()), ("tick", (0,))]
        self.assertEqual(calls, made + [("up", ()), ("look", (1,)), ("up", ()), ("tick", (1,))])

    def test_filter_looks_no_further_than_needed(self):
        tree = ("or", (("and", (("is", LOOK_X, 1), ("is", UP, 0))), ("not", ("is", TICK_X, 2))))
        plan = plan_of(tree)
        told = play(plan, START, ROWS)
        self.assertEqual(told[2], [("look", (0,)), ("tick", (0,)), ("look", (1,)), ("up", ()), ("look", (2,)), ("tick", (2,))])
        self.assertEqual(told[:2], ([(), (), ()], {"z": 1, "s": 1}))

    def test_orders(self):
        tree = ("and", (("is", LOOK_X, 1), ("or", (("is", UP, 2), ("is", TICK_X, 2)))))
        rows = [
            (((0, 1), (0, 1)), ["look", "up", "tick"], [()]), (((0, 1), (1, 0)), ["look", "tick", "up"], []),
            (((1, 0), (0, 1)), ["up", "tick", "look"], [()]), (((1, 0), (1, 0)), ["tick", "up"], []),
        ]
        for orders, names, answers in rows:
            told = play(plan_of(tree, orders=orders), START, [(1, 0)])
            self.assertEqual([name for name, _ in told[2]], names)
            self.assertEqual(told[0], answers)

    def test_phases(self):
        outputs = [(UP, True), (TICK_X, True)]
        plan = plan_of(("not", ("is", TICK_X, 2)), outputs)
        rows = play(plan, START, [(0, 0), (1, 0), (2, 0)])
        self.assertEqual([name for name, _ in rows[2]], ["tick", "up", "tick", "tick", "up", "tick", "tick"])
        self.assertEqual(rows[0], [(0, 2), (1, 0)])
        filters = play(plan.changed("phases", "filters"), START, [(0, 0), (1, 0), (2, 0)])
        self.assertEqual([name for name, _ in filters[2]], ["tick", "tick", "tick", "up", "tick", "up", "tick"])
        self.assertEqual(filters[0], [(0, 1), (1, 2)])

    def test_memo(self):
        outputs = [(LOOK_X, True), (LOOK_ONE, True), (("look", ("y",)), True), (LOOK_X, True)]
        plan = plan_of(("is", ("look", (0,)), 0), outputs, marks=["memo"] * 4 + ["each"])
        answers, _, calls = play(plan, START, [(0, 1), (1, 0), (0, 1)])
        self.assertEqual(answers, [(0, 1, 1, 0), (1, 1, 0, 1), (0, 1, 1, 0)])
        given = [0, 1, 0, 1, 0]
        self.assertEqual(calls, [("look", (value,)) for value in given])

    def test_memo_goes_by_the_view_and_by_the_function(self):
        book = Book([Cell("z", "table")], [
            Function("one", 0, Z, label="statement"), Function("other", 0, ("plus", Z, 1), label="statement"),
            Function("up", 0, Z, writes=[("z", ("plus", Z, 1))]),
        ])
        outputs = [((name, ()), True) for name in ["one", "up", "other", "one", "other"]]
        plan = Plan(book, Statement(None, outputs), marks=["memo", "each", "memo", "memo", "memo"])
        answers, _, calls = play(plan, {"z": 1}, [(0, 0), (0, 0)])
        self.assertEqual(answers, [(1, 1, 2, 1, 2), (1, 2, 2, 1, 2)])
        self.assertEqual([name for name, _ in calls], ["one", "up", "other", "up"])

    def test_begin(self):
        tree = ("and", (("is", LOOK_X, 1), ("is", LOOK_ONE, 1)))
        plan = plan_of(tree, [(RATE, False), (LOOK_ONE, True)], marks=["each", "begin", "begin", "begin"])
        begun = [("look", (1,)), ("rate", ()), ("look", (1,))]
        self.assertEqual(play(plan, START, []), ([], START, begun))
        answers, _, calls = play(plan, START, ROWS)
        self.assertEqual((answers, calls), ([(1,)], begun + [("look", (0,)), ("look", (1,)), ("look", (2,))]))

    def test_fold(self):
        plan = plan_of(("is", LOOK_ONE, 2), [(RATE, True), (LOOK_ONE, True)], marks=["fold", "fold", "each"], kept=True)
        self.assertEqual(folded(plan, {"z": 1, "s": 2}), {LOOK_ONE: 2, RATE: 2})
        self.assertEqual(play(plan, START, ROWS[:1]), ([], START, []))
        folds = {LOOK_ONE: 2, RATE: 0}
        told = play(plan, START, ROWS[:2], folds=folds)
        self.assertEqual(told, ([(0, 1), (0, 1)], START, [("look", (1,)), ("look", (1,))]))
        self.assertEqual(folds, {LOOK_ONE: 2, RATE: 0})
        self.assertEqual(play(plan, START, ROWS[:2], folds={**folds, UP: None, "more": 7}), told)
        self.assertEqual(play(plan, START, ROWS, folds=None), play(plan, START, ROWS, folds=folded(plan, START)))

    def test_gone(self):
        plan = plan_of(None, [(LOOK_X, False), (RATE, False), (LOOK_ONE, True)], marks=["gone", "each", "each"])
        self.assertEqual(play(plan, START, ROWS[:1]), ([(1,)], START, [("rate", ()), ("look", (1,))]))

    def test_nothing_that_is_handed_in_is_changed(self):
        plan = plan_of(("is", UP, 0), [(RATE, True)], marks=["each", "fold"])
        state, table, folds = dict(START), [(0, 0)], {RATE: 2}
        told = play(table=table, state=state, folds=folds, plan=plan)
        self.assertEqual((state, table, folds), (START, [(0, 0)], {RATE: 2}))
        for part in told:
            part.clear()
        self.assertEqual(play(plan, state, ((0, 0),), folds=folds), ([(2,)], {"z": 1, "s": 1}, [("up", ())]))
        folded(plan, state).clear()
        self.assertEqual(folded(state=state, plan=plan), {RATE: 1})
        self.assertEqual(folded(plan.changed("marks", None), state), {})

    def test_greatest(self):
        book = Book([Cell("c" + letter, "table") for letter in "abcdef"],
                    [Function("f" + letter, 1, ("plus", ("arg", 0), ("cell", "ca")), writes=[("c" + letter, ("arg", 0))])
                     for letter in "abcdef"] + [Function("fg", 0, 1), Function("fh", 2, ("cell", "cf"))])
        calls = [("f" + letter, ("x",)) for letter in "abcdef"] + [("fg", ()), ("fh", ("x", "y"))]
        plan = Plan(book, Statement(("and", tuple(("is", call, 1) for call in calls[:4])), [(call, True) for call in calls[4:]]))
        state = {cell.name: 0 for cell in book.all_cells()}
        table = [(1, 0), (0, 1), (2, 2)] * 2
        for phases in ["rows", "filters"]:
            told = play(plan.changed("phases", phases), state, table)
            self.assertEqual(told, plain.play(plan.changed("phases", phases), state, table, {})[:3])


class TestSights(unittest.TestCase):
    def test_rows_indexes_values(self):
        tree = ("or", (("is", LOOK_X, 1), ("is", UP, 0)))
        plan = plan_of(tree, [(RATE, True), (LOOK_X, True), (LOOK_ONE, True), (RATE, False)], orders=[(1, 0)],
                       marks=["memo", "each", "begin", "memo", "fold", "gone"])
        self.assertTrue(inspect.isgeneratorfunction(sights))
        self.assertEqual(list(sights(table=[(0, 0), (1, 0), (2, 0)], state=START, plan=plan)),
                         [(None, 2, 1), (0, 1, 0), (0, 3, 0), (1, 1, 1), (1, 0, 1), (2, 1, 2), (2, 0, 2)])

    def test_folded_values_are_those_of_the_state(self):
        plan = plan_of(("is", RATE, 1), [(LOOK_X, True)], marks=["fold", "each"])
        self.assertEqual(list(sights(plan, START, [(2, 0)])), [(0, 1, 2)])
        self.assertEqual(list(sights(plan, {"z": 0, "s": 0}, [(2, 0)])), [])


class TestAsTheDocumentSays(unittest.TestCase):
    def test_plays(self):
        for seed in range(SEEDS):
            chance = random.Random(seed)
            book = plain.BOOK if seed % 2 else reference.some_book(seed)
            statement = plain.some_statement(chance, book, 8)
            plan = plain.some_plan(chance, book, statement)
            state, planning = reference.some_state(chance, book), reference.some_state(chance, book)
            table = plain.some_table(chance)
            self.assertEqual(folded(plan, planning), plain.folds_of(plan, planning))
            for told, folds in [(None, plain.folds_of(plan, state)), (folded(plan, planning),) * 2]:
                answers, behind, made, seen = plain.play(plan, state, table, folds)
                self.assertEqual(play(plan, state, table, folds=told), (answers, behind, made))
                if told is None:
                    self.assertEqual(list(sights(plan, state, table)), seen)

    def test_marks_change_nothing_that_is_seen(self):
        for seed in range(SEEDS):
            chance = random.Random(seed)
            statement = plain.some_statement(chance, plain.BOOK, 6)
            plan = Plan(plain.BOOK, statement)
            state = reference.some_state(chance, plain.BOOK)
            table = plain.some_table(chance)
            marks = plain.some_plan(chance, plain.BOOK, statement).marks
            answers, behind, calls = play(plan, state, table)
            marked = play(plan.changed("marks", marks), state, table)
            self.assertEqual(marked[:2], (answers, behind))
            if "begin" not in marks:
                names = [name for name, _ in calls]
                fewer = [name for name, _ in marked[2]]
                for name in plain.BOOK.names():
                    self.assertLessEqual(fewer.count(name), names.count(name))


class TestRefused(unittest.TestCase):
    def setUp(self):
        self.plan = plan_of(("is", LOOK_ONE, 1), [(RATE, True), (LOOK_X, True)], marks=["fold", "fold", "each"])

    def all_refuse(self, error, state, table):
        found = [refused(self, error, lambda: play(self.plan, state, table, folds=None)),
                 refused(self, error, lambda: play(self.plan, state, table, folds=7))]
        generated = sights(self.plan, state, table)
        return found + [refused(self, error, lambda: next(generated))]

    def test_state(self):
        for value in oddities() + [{}, {"z": 0}, {"z": 0, "s": 3}, {"z": True, "s": 0}, {"s": 0, "y": 0}]:
            self.all_refuse(BadState, value, None)
            refused(self, BadState, lambda: folded(self.plan, value))
        for caught in self.all_refuse(BadState, {"z": 0}, None):
            self.assertIsNone(caught.name)
        for caught in self.all_refuse(BadState, {"z": 0, "s": 3}, None):
            self.assertEqual(caught.name, "s")

    def test_table(self):
        for value in [value for value in oddities() + NO_TABLES if not isinstance(value, (list, tuple))]:
            for caught in self.all_refuse(BadTable, START, value):
                self.assertIsNone(caught.index)
        for value in [[0, 0], (0,), (0, 0, 0), (0, 3), (True, 0), (0, None), None] + oddities():
            for caught in self.all_refuse(BadTable, START, [(0, 0), value, value]):
                self.assertEqual(caught.index, 1)
        for caught in self.all_refuse(BadTable, START, [(0, 0)] * 7 + [(0,)]):
            self.assertEqual(caught.index, 7)

    def test_too_many_rows(self):
        self.assertEqual(len(play(self.plan, START, [(0, 0)] * 6)[0]), 6)
        for caught in self.all_refuse(TooMany, START, [(0, 0)] * 7):
            self.assertEqual(caught.limit, 6)

    def test_folded_values(self):
        wrong = [{}, {LOOK_ONE: 1}, {RATE: 1}, {LOOK_ONE: 3, RATE: 1}, {LOOK_ONE: True, RATE: 1}, {LOOK_ONE: None, RATE: 1},
                 [(LOOK_ONE, 1), (RATE, 1)], {LOOK_X: 1, RATE: 1}]
        for value in wrong + oddities():
            if value is not None:
                self.assertIs(refused(self, BadToken, lambda: play(self.plan, START, [], folds=value)).token, value)

    def test_folds_by_name_only(self):
        self.assertRaises(TypeError, play, self.plan, START, [], {})
