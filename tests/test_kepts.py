"""Points [11], [12] and [16]: kept plans."""

import itertools
import random
import unittest

import plain
import reference
from oddities import oddities
from refusals import refused
from steadycalls.books import Book
from steadycalls.cells import Cell
from steadycalls.errors import BadFunction, BadPlan, BadState, BadTable, TooMany, UnknownName
from steadycalls.functions import Function
from steadycalls.kepts import Kept
from steadycalls.plans import Plan
from steadycalls.plays import play
from steadycalls.statements import Statement
from test_statements import NO_TABLES

CELLS = [Cell("z", "table"), Cell("s", "setting"), Cell("k", "frozen"), Cell("u", "table")]
START = {"z": 1, "s": 0, "k": 2, "u": 0}
RATE = Function("rate", 1, ("plus", ("arg", 0), ("cell", "s")), label="session")
LOOK = Function("look", 1, ("if", ("cell", "k"), ("plus", ("cell", "z"), ("arg", 0)), ("cell", "u")), label="statement")
OVER = Function("over", 0, ("call", "rate", (("less", ("cell", "u"), 0),)), label="statement")
WRONG = Function("wrong", 0, ("plus", ("tick",), ("cell", "z")), label="always", writes=[("z", 2)])
UP = Function("up", 0, ("cell", "z"), writes=[("z", ("plus", ("cell", "z"), 1))])
BOOK = Book(CELLS, [RATE, LOOK, OVER, WRONG, UP])
RATE_ONE, LOOK_TWO, OVER_CALL, WRONG_CALL, UP_CALL = ("rate", (1,)), ("look", (2,)), ("over", ()), ("wrong", ()), ("up", ())
STATEMENT = Statement(("or", (("is", LOOK_TWO, 0), ("is", UP_CALL, 1))), [(RATE_ONE, True), (("rate", ("x",)), True), (LOOK_TWO, False)])
MARKS = ["fold", "each", "fold", "memo", "fold"]


def plan_of(*calls, **parts):
    statement = Statement(None, [(call, True) for call in calls])
    return Plan(BOOK, statement, marks=["fold"] * len(calls), kept=True, **parts)


class TestKept(unittest.TestCase):
    def setUp(self):
        self.plan = Plan(BOOK, STATEMENT, marks=MARKS, kept=True)
        self.kept = Kept(self.plan, START)

    def tearDown(self):
        self.assertEqual((self.kept.plan, self.kept.planned()), (self.plan, START))
        self.assertEqual(self.kept.folds(), {LOOK_TWO: 0, RATE_ONE: 1})

    def test_what_is_in_it(self):
        self.assertEqual(list(self.kept.folds()), [LOOK_TWO, RATE_ONE])
        self.assertEqual(list(self.kept.planned()), list(START))
        self.assertEqual(Kept(state=START, plan=self.plan), self.kept)
        for told in [self.kept.folds(), self.kept.planned(), self.kept.watched(), self.kept.stale({**START, "s": 1})]:
            told.clear()

    def test_the_state_stays_apart(self):
        state = dict(START)
        kept = Kept(self.plan, state)
        state["s"] = 2
        self.assertEqual((kept.planned(), kept), (START, self.kept))

    def test_equal(self):
        self.assertIs(self.kept == Kept(self.plan, {**START, "u": 2}), True)
        self.assertIs(self.kept == Kept(self.plan, {**START, "s": 1}), False)
        self.assertIs(self.kept == Kept(self.plan.changed("phases", "filters"), START), False)
        self.assertIs(self.kept == Kept(self.plan.marked(4, "each"), START), False)
        for other in [self.plan, None, START, object()]:
            self.assertIs(self.kept == other, False)

    def test_stale(self):
        for change, stale in [({}, []), ({"u": 2}, []), ({"s": 1}, [RATE_ONE]), ({"z": 0}, [LOOK_TWO]), ({"k": 1}, []),
                              ({"k": 0}, []), ({"k": 0, "u": 1}, [LOOK_TWO]), ({"s": 2, "z": 2}, [LOOK_TWO, RATE_ONE])]:
            state = {**START, **change}
            self.assertEqual(self.kept.stale(state=state), stale)
            self.assertIs(self.kept.is_good(state=state), not stale)

    def test_watched(self):
        self.assertEqual(self.kept.watched(), ["z", "s", "k", "u"])
        for calls, cells in [([RATE_ONE], ["s"]), ([LOOK_TWO], ["z", "k", "u"]), ([OVER_CALL], ["s"]), ([WRONG_CALL], ["z"]),
                             ([], []), ([WRONG_CALL, RATE_ONE], ["z", "s"])]:
            self.assertEqual(Kept(plan_of(*calls), START).watched(), cells)

    def test_cells_that_do_not_matter_are_not_watched(self):
        functions = [
            Function("a", 1, ("if", ("arg", 0), ("cell", "z"), ("cell", "s")), label="statement"),
            Function("b", 0, ("plus", ("cell", "u"), ("plus", ("cell", "u"), ("cell", "u"))), label="always", writes=[("z", 1)]),
            Function("c", 0, ("if", ("same", ("cell", "z"), ("cell", "u")), ("cell", "k"), 0), label="statement"),
            Function("d", 0, ("if", ("tick",), ("cell", "z"), ("cell", "u")), label="statement"),
        ]
        book = Book(CELLS, functions)
        for call, cells in [(("a", (0,)), ["s"]), (("a", (2,)), ["z"]), (("b", ()), []), (("c", ()), ["z", "k", "u"]), (("d", ()), ["u"])]:
            plan = Plan(book, Statement(("is", call, 0)), marks=["fold"], kept=True)
            self.assertEqual(Kept(plan, START).watched(), cells)

    def test_played(self):
        table = [(0, 0), (2, 0)]
        for change in [{}, {"s": 1}, {"z": 0}, {"z": 2, "s": 2, "u": 1, "k": 0}]:
            state = {**START, **change}
            told = self.kept.played(table=table, state=state)
            self.assertEqual(told, play(self.plan, state, table, folds={LOOK_TWO: 0, RATE_ONE: 1}))
        self.assertEqual(self.kept.played({**START, "s": 1}, table)[0], [(1, 1), (1, 0)])

    def test_good_plans_are_seen_as_if_planned_anew(self):
        good = 0
        for seed in range(300):
            chance = random.Random(seed)
            plan = plain.some_plan(chance, plain.BOOK, plain.some_statement(chance, plain.BOOK, 6), True)
            planning, state = reference.some_state(chance, plain.BOOK), reference.some_state(chance, plain.BOOK)
            kept = Kept(plan, planning)
            folds = plain.folds_of(plan, planning)
            now = plain.folds_of(plan, state)
            self.assertEqual(kept.folds(), folds)
            self.assertEqual(kept.stale(state), [call for call in folds if folds[call] != now[call]])
            self.assertIs(kept.is_good(state), folds == now)
            table = plain.some_table(chance)
            self.assertEqual(kept.played(state, table), plain.play(plan, state, table, folds)[:3])
            if kept.is_good(state):
                good += 1
                self.assertEqual(kept.played(state, table), play(plan, state, table))
            watched = kept.watched()
            other = {name: value if name in watched else chance.randrange(3) for name, value in planning.items()}
            self.assertIs(kept.is_good(other), True)
            self.assertEqual(watched, self.watched_by(plan))
        self.assertGreater(good, 50)

    def watched_by(self, plan):
        cells = plan.book.all_cells()
        names = [cell.name for cell in cells]
        states = [dict(zip(names, values)) for values in itertools.product(range(3), repeat=len(names))]
        told = [plain.folds_of(plan, state) for state in states]
        found = []
        for name in names:
            seen = {}
            for state, values in zip(states, told):
                seen.setdefault(tuple(state[other] for other in names if other != name), []).append(values)
            if any(values != group[0] for group in seen.values() for values in group):
                found.append(name)
        return found


class TestGoodWith(unittest.TestCase):
    def setUp(self):
        self.plan = plan_of(OVER_CALL, LOOK_TWO).changed("marks", ["fold", "fold"])
        self.kept = Kept(self.plan, START)

    def test_by_values(self):
        self.assertIs(self.kept.is_good_with(state=START, function=LOOK), True)
        for function, good in [
            (LOOK.changed("result", ("plus", ("arg", 0), ("cell", "z"))), True), (LOOK.changed("result", 1), False),
            (LOOK.changed("result", 0), True), (RATE.changed("result", ("cell", "s")), True),
            (RATE.changed("result", ("plus", 1, ("cell", "s"))), False), (WRONG.changed("result", 0), True),
            (UP.changed("result", 2), True), (OVER.changed("result", ("plus", 1, ("tick",))), False),
            (OVER.changed("result", ("plus", ("tick",), 0)), True),
        ]:
            self.assertIs(self.kept.is_good_with(function, START), good)
        self.assertIs(self.kept.is_good_with(LOOK, {**START, "z": 0}), False)
        self.assertIs(self.kept.is_good_with(LOOK.changed("result", 0), {**START, "z": 0}), True)
        self.assertIs(self.kept.is_good_with(LOOK, {**START, "k": 0}), True)

    def test_labels(self):
        for label in ["always", "session", "statement"]:
            self.assertIs(self.kept.is_good_with(LOOK.labelled(label), START), True)
        self.assertIs(self.kept.is_good_with(LOOK.labelled("changing"), START), False)
        # What a folded call reaches runs as it stands, whatever its label.
        self.assertIs(self.kept.is_good_with(RATE.labelled("changing"), START), True)
        self.assertIs(self.kept.is_good_with(UP.labelled("always"), START), True)

    def test_marks(self):
        statement = Statement(("is", LOOK_TWO, 0), [(RATE_ONE, True), (("look", ("x",)), False)])
        for marks, good in [(["each", "fold", "each"], True), (["each", "fold", "memo"], False), (["begin", "fold", "each"], False),
                            (["each", "fold", "gone"], False), (["memo", "fold", "each"], False), (["each", "each", "each"], True)]:
            kept = Kept(Plan(BOOK, statement, marks=marks, kept=True), START)
            self.assertIs(kept.is_good_with(LOOK.labelled("changing"), START), good)
            self.assertIs(kept.is_good_with(LOOK.labelled("always"), START), True)

    def test_refused(self):
        for value in oddities() + ["look", BOOK]:
            self.assertIs(refused(self, BadFunction, lambda: self.kept.is_good_with(value, None)).index, value)
        other = Function("other", 0, 0)
        self.assertEqual(refused(self, UnknownName, lambda: self.kept.is_good_with(other, None)).name, "other")
        lost = LOOK.changed("result", ("cell", "none"))
        self.assertEqual(refused(self, BadFunction, lambda: self.kept.is_good_with(lost, None)).index, 1)
        # over calls rate with one argument: as with_function.
        self.assertEqual(refused(self, BadFunction, lambda: self.kept.is_good_with(Function("rate", 0, 1), None)).index, 2)
        wider = Function("look", 2, 1, label="statement")
        self.assertIs(refused(self, BadFunction, lambda: self.kept.is_good_with(wider, None)).index, wider)
        for value in oddities() + [{}]:
            self.assertIsNone(refused(self, BadState, lambda: self.kept.is_good_with(LOOK.labelled("changing"), value)).name)
        caught = refused(self, BadState, lambda: self.kept.is_good_with(LOOK, {**START, "s": True}))
        self.assertEqual(caught.name, "s")


class TestRefused(unittest.TestCase):
    def test_plan(self):
        loose = Plan(BOOK, STATEMENT)
        for value in oddities() + [loose, BOOK, STATEMENT]:
            self.assertIs(refused(self, BadPlan, lambda: Kept(value, None)).plan, value)

    def test_states(self):
        plan = Plan(BOOK, STATEMENT, marks=MARKS, kept=True)
        kept = Kept(plan, START)
        calls = [lambda state: Kept(plan, state), kept.stale, kept.is_good, lambda state: kept.played(state, None)]
        for call in calls:
            for value in oddities() + [{}, {**START, "more": 0}]:
                self.assertIsNone(refused(self, BadState, lambda: call(value)).name)
            self.assertEqual(refused(self, BadState, lambda: call({**START, "k": 3, "u": None})).name, "k")

    def test_tables(self):
        kept = Kept(Plan(BOOK, STATEMENT, marks=MARKS, kept=True), START)
        for value in oddities() + NO_TABLES:
            if not isinstance(value, (list, tuple)):
                self.assertIsNone(refused(self, BadTable, lambda: kept.played(START, value)).index)
        for value in oddities():
            self.assertEqual(refused(self, BadTable, lambda: kept.played(START, [(0, 0), value])).index, 1)
        self.assertEqual(refused(self, TooMany, lambda: kept.played(START, [(0, 0)] * 7)).limit, 6)
