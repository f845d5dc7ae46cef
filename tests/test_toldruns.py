"""Points [11], [12] and [20]: told runs, and which plans go with them."""

import itertools
import random
import unittest

import plain
import reference
from oddities import oddities
from refusals import refused
from steadycalls.books import Book
from steadycalls.cells import Cell
from steadycalls.errors import BadCall, BadPlan, BadRun, BadState, BadTable, TooMany
from steadycalls.functions import Function
from steadycalls.plans import Plan, orders_of
from steadycalls.plays import play
from steadycalls.statements import Statement
from steadycalls.toldruns import counts_of, goes_with, marks_told, parting_run, parting_runs, plans_for, told_run
from test_statements import NO_TABLES

Z = ("cell", "z")
BOOK = Book([Cell("z", "table"), Cell("s", "setting")], [
    Function("look", 1, ("plus", ("arg", 0), Z), label="statement"),
    Function("rate", 0, ("cell", "s"), label="session"),
    Function("up", 0, Z, writes=[("z", ("plus", Z, 1))]),
    Function("top", 0, ("plus", ("call", "up", ()), ("call", "look", (1,)))),
])
START = {"z": 0, "s": 1}
LOOK_X, LOOK_ONE, RATE, UP, TOP = ("look", ("x",)), ("look", (1,)), ("rate", ()), ("up", ()), ("top", ())
ROWS = [(0, 0), (1, 0), (2, 0), (1, 1)]


def plan_of(condition, outputs=(), book=BOOK, **parts):
    return Plan(book, Statement(condition, outputs), **parts)


def plain_counts(plan, state, table):
    made = plain.play(plan, state, table, plain.folds_of(plan, state))[2]
    called = [name for name, _ in plan.statement.all_calls()]
    return {name: sum(one == name for one, _ in made) for name in plan.book.names() if name in called}


def all_plans(book, statement):
    """All plans that are not kept, in the order of the document."""
    marks = [plain.marks_let(book, statement, index) for index in range(len(statement))]
    return [Plan(book, statement, orders=orders, phases=phases, marks=row)
            for orders in orders_of(statement) for phases in ["rows", "filters"] for row in itertools.product(*marks)]


def short_runs(plan):
    """The told runs of a plan on all states and all tables of at most two rows."""
    names = [cell.name for cell in plan.book.all_cells()]
    for many in range(3):
        for table in itertools.product(plain.ROWS, repeat=many):
            for values in itertools.product(range(3), repeat=len(names)):
                state = dict(zip(names, values))
                yield state, list(table), plain_counts(plan, state, table)


class TestCounts(unittest.TestCase):
    def test_each(self):
        plan = plan_of(("is", LOOK_X, 1), [(RATE, True), (UP, False)])
        self.assertEqual(counts_of(plan, START, ROWS), {"look": 4, "rate": 2, "up": 2})
        self.assertEqual(list(counts_of(plan, START, ROWS)), ["look", "rate", "up"])
        self.assertEqual(counts_of(table=(), state=START, plan=plan), {"look": 0, "rate": 0, "up": 0})

    def test_in_the_order_of_the_book(self):
        plan = plan_of(None, [(TOP, True), (LOOK_ONE, True)])
        self.assertEqual(list(counts_of(plan, START, ROWS)), ["look", "top"])
        # What a function calls within itself does not count.
        self.assertEqual(counts_of(plan, START, ROWS), {"look": 4, "top": 4})
        self.assertEqual(counts_of(Plan(BOOK, Statement(None)), START, ROWS), {})

    def test_marks(self):
        outputs = [(LOOK_X, True), (LOOK_ONE, False), (RATE, False), (LOOK_ONE, True)]
        for marks, looks, rates in [(["memo"] * 4, 3, 1), (["memo", "begin", "gone", "fold"], 4, 0), (["each", "begin", "begin", "begin"], 6, 1),
                                    (["each", "gone", "fold", "memo"], 5, 0)]:
            plan = plan_of(None, outputs, marks=marks)
            self.assertEqual(counts_of(plan, START, ROWS), {"look": looks, "rate": rates})
        self.assertEqual(counts_of(plan_of(None, outputs, marks=["memo", "begin", "begin", "fold"]), START, []), {"look": 1, "rate": 1})

    def test_as_the_document_says(self):
        for seed in range(150):
            chance = random.Random(seed)
            statement = plain.some_statement(chance, plain.BOOK, 8)
            plan = plain.some_plan(chance, plain.BOOK, statement)
            state, table = reference.some_state(chance, plain.BOOK), plain.some_table(chance)
            told = counts_of(plan, state, table)
            self.assertEqual(list(told.items()), list(plain_counts(plan, state, table).items()))
            run = told_run(plan, state, tuple(table))
            self.assertEqual(run, (state, table, told))
            self.assertIs(goes_with(plan, [run, run]), True)

    def test_told_run(self):
        plan = plan_of(None, [(UP, True)])
        state, table = dict(START), [(0, 0)]
        told = told_run(table=table, state=state, plan=plan)
        self.assertEqual(told, ({"z": 0, "s": 1}, [(0, 0)], {"up": 1}))
        state["z"] = 2
        table.append((1, 1))
        self.assertEqual(told, ({"z": 0, "s": 1}, [(0, 0)], {"up": 1}))


class TestGoesWith(unittest.TestCase):
    def test_goes_with(self):
        plan = plan_of(("is", LOOK_X, 1), [(UP, True)])
        runs = [(START, ROWS, {"look": 4, "up": 2}), ({"z": 1, "s": 0}, [(0, 0)], {"up": 1, "look": 1})]
        self.assertIs(goes_with(plan, runs), True)
        self.assertIs(goes_with(runs=tuple(runs), plan=plan.changed("kept", True)), True)
        self.assertIs(goes_with(plan.marked(0, "memo"), runs), False)
        self.assertIs(goes_with(plan.marked(0, "memo"), runs[1:]), True)
        self.assertIs(goes_with(plan, runs + [(START, [], {"look": 1, "up": 0})]), False)
        self.assertIs(goes_with(plan, []), True)
        self.assertIs(goes_with(plan, [(START, (), {"look": 0, "up": 0})]), True)

    def test_folded_values_of_their_states(self):
        tree = ("and", (("is", RATE, 1), ("is", LOOK_X, 1)))
        for kept in [False, True]:
            plan = plan_of(tree, marks=["fold", "each"], kept=kept)
            self.assertIs(goes_with(plan, [(START, [(0, 0)], {"look": 1, "rate": 0}), ({"z": 0, "s": 2}, [(0, 0)], {"look": 0, "rate": 0})]), True)


class TestPlansFor(unittest.TestCase):
    def test_in_order(self):
        statement = Statement(("or", (("is", RATE, 2), ("is", LOOK_X, 1))), [(RATE, False)])
        plans = all_plans(BOOK, statement)
        self.assertEqual(len(plans), 2 * 2 * 4 * 2 * 5)
        told = plans_for(BOOK, statement, [])
        self.assertEqual(told, plans)
        self.assertEqual(marks_told(BOOK, statement, []), [["each", "memo", "begin", "fold"], ["each", "memo"], ["each", "memo", "begin", "fold", "gone"]])
        told.clear()
        self.assertEqual(len(plans_for(BOOK, statement, [])), len(plans))

    def test_no_calls(self):
        self.assertEqual(plans_for(BOOK, Statement(None), [(START, ROWS, {})]), all_plans(BOOK, Statement(None)))
        self.assertEqual(marks_told(BOOK, Statement(None), []), [])

    def test_none(self):
        statement = Statement(None, [(LOOK_X, True), (UP, False)])
        runs = [(START, [(0, 0)], {"look": 2, "up": 1})]
        self.assertEqual([plans_for(BOOK, statement, runs), marks_told(statement=statement, runs=runs, book=BOOK)], [[], [[], []]])

    def test_told_back(self):
        statement = Statement(None, [(LOOK_X, True), (LOOK_ONE, False), (UP, True)])
        plan = Plan(BOOK, statement, marks=["memo", "gone", "each"])
        runs = [told_run(plan, START, ROWS), told_run(plan, START, [])]
        told = plans_for(runs=runs, statement=statement, book=BOOK)
        self.assertIn(plan, told)
        self.assertEqual([one.marks for one in told if one.phases == "rows"],
                         [("memo", "memo", "each"), ("memo", "fold", "each"), ("memo", "gone", "each")])
        self.assertEqual(marks_told(BOOK, statement, runs), [["memo"], ["memo", "fold", "gone"], ["each"]])

    def test_as_the_document_says(self):
        some = 0
        for seed in range(60):
            chance = random.Random(seed)
            statement = plain.some_statement(chance, plain.BOOK, 3)
            plans = all_plans(plain.BOOK, statement)
            if len(plans) > 250:
                continue
            runs = [told_run(chance.choice(plans), reference.some_state(chance, plain.BOOK), plain.some_table(chance, 3)) for _ in range(2)]
            told = plans_for(plain.BOOK, statement, runs)
            best = [plan for plan in plans if all(plain_counts(plan, state, table) == counts for state, table, counts in runs)]
            self.assertEqual(told, best)
            self.assertEqual([plan for plan in plans if goes_with(plan, runs)], best)
            self.assertEqual(marks_told(plain.BOOK, statement, runs),
                             [[mark for mark in plain.MARKS if any(plan.marks[index] == mark for plan in best)] for index in range(len(statement))])
            some += 0 < len(told) < len(plans)
        self.assertGreater(some, 15)

    def test_a_thousand_plans(self):
        # 2 phases and 5 * 5 * 5 * 4 marks, or 5 ** 4.
        most = Statement(None, [(RATE, False)] * 3 + [(RATE, True)])
        self.assertEqual(len(plans_for(BOOK, most, [(START, [(0, 0)], {"rate": 4})])), 2 * self.with_four())
        more = Statement(None, [(RATE, False)] * 4)
        self.assertEqual(refused(self, TooMany, lambda: plans_for(BOOK, more, [])).limit, 1000)
        self.assertEqual(refused(self, TooMany, lambda: marks_told(BOOK, more, [])).limit, 1000)

    def with_four(self):
        """How many rows of four marks call `rate` four times on one row."""
        let = [["each", "memo", "begin", "fold", "gone"]] * 3 + [["each", "memo", "begin", "fold"]]
        return sum(1 for marks in itertools.product(*let)
                   if sum(mark in ("each", "begin") for mark in marks) + ("memo" in marks) == 4)

    def test_eight_calls_and_many_orders(self):
        ups = tuple(("is", UP, value % 3) for value in range(6))
        self.assertEqual(len(plans_for(BOOK, Statement(("and", ups[:5]), [(UP, True)] * 3), [])), 240)
        self.assertEqual(refused(self, TooMany, lambda: plans_for(BOOK, Statement(("and", ups)), [])).limit, 1000)
        many = Statement(("and", tuple(("is", UP, 0) for _ in range(8))))
        self.assertEqual(refused(self, TooMany, lambda: marks_told(BOOK, many, [])).limit, 1000)


class TestParting(unittest.TestCase):
    def check(self, one, other):
        told = parting_run(one, other)
        if told is not None:
            state, table, counts = told
            self.assertEqual((type(told), type(state), type(table), type(counts)), (tuple, dict, list, dict))
            self.assertLessEqual(len(table), 2)
            self.assertEqual(told, told_run(one, state, table))
            self.assertIs(goes_with(one, [told]), True)
            self.assertIs(goes_with(other, [told]), False)
        return told

    def test_orders(self):
        tree = ("and", (("is", RATE, 1), ("is", LOOK_X, 1)))
        one = plan_of(tree)
        told = self.check(one, one.changed("orders", [(1, 0)]))
        self.assertEqual(len(told[1]), 1)
        self.assertIsNone(self.check(one, one.changed("phases", "filters")))
        self.assertIsNone(self.check(one, one))

    def test_marks(self):
        one = plan_of(None, [(RATE, True), (LOOK_X, False)])
        self.assertEqual(self.check(one, one.marked(0, "begin"))[1], [])
        self.assertEqual(len(self.check(one, one.marked(0, "memo"))[1]), 2)
        self.assertEqual(len(self.check(one, one.marked(1, "gone"))[1]), 1)
        self.assertIsNone(self.check(one.marked(1, "gone").marked(0, "fold"), one.marked(1, "gone").marked(0, "fold").changed("phases", "filters")))
        self.assertIsNone(self.check(plan_of(None, [(RATE, False)], marks=["gone"]), plan_of(None, [(RATE, False)], marks=["fold"])))

    def test_no_rows(self):
        # Just on the table without rows, and there is no other state.
        one = plan_of(None, [(("two", ()), True)], Book([], [Function("two", 0, 2, label="always")]), marks=["memo"])
        self.assertEqual(self.check(one, one.marked(0, "begin")), ({}, [], {"two": 0}))
        self.assertEqual(self.check(one.marked(0, "begin"), one), ({}, [], {"two": 1}))

    def test_phases_of_changing_calls(self):
        one = plan_of(("is", UP, 1), [(TOP, True), (UP, False)])
        told = self.check(one, one.changed("phases", "filters"))
        self.assertEqual(len(told[1]), 2)

    def test_three_rows(self):
        # Up to two rows the third tick does not come, and so the call behind it neither.
        book = Book(BOOK.all_cells(), [BOOK["rate"], Function("late", 0, ("less", 1, ("tick",)))])
        one = plan_of(("and", (("is", ("late", ()), 1), ("is", RATE, 1))), book=book)
        other = one.marked(1, "fold")
        self.assertIsNone(self.check(one, other))
        self.assertEqual(parting_runs([one, other]), [])
        self.assertIs(goes_with(other, [told_run(one, START, [(0, 0)] * 2)]), True)
        self.assertIs(goes_with(other, [told_run(one, START, [(0, 0)] * 3)]), False)

    def test_as_the_document_says(self):
        parted = 0
        for seed in range(60):
            chance = random.Random(seed)
            statement = plain.some_statement(chance, BOOK, 4)
            one = plain.some_plan(chance, BOOK, statement, False)
            other = plain.near_plan(chance, one) if seed % 2 else plain.some_plan(chance, BOOK, statement, False)
            best = [run for run in short_runs(one) if plain_counts(other, run[0], run[1]) != run[2]]
            told = self.check(one, other)
            self.assertEqual(told is None, best == [])
            parted += told is not None
        self.assertTrue(15 < parted < 55)

    def test_parting_runs(self):
        left_some = several = 0
        for seed in range(40):
            chance = random.Random(seed)
            statement = plain.some_statement(chance, BOOK, 4)
            plans = [plain.some_plan(chance, BOOK, statement, False) for _ in range(6)]
            told = parting_runs(tuple(plans) if seed % 2 else plans)
            for at, (state, table, counts) in enumerate(told):
                self.assertLessEqual(len(table), 2)
                self.assertEqual(counts, plain_counts(plans[0], state, table))
                ahead = [plan for plan in plans if goes_with(plan, told[:at])]
                self.assertLess(sum(goes_with(plan, told[:at + 1]) for plan in plans), len(ahead))
            left = list(plans)
            for state, table, counts in short_runs(plans[0]):
                left = [plan for plan in left if plain_counts(plan, state, table) == counts]
            self.assertEqual([plan for plan in plans if goes_with(plan, told)], left)
            left_some += len(left) > 1
            several += len(told) > 1
        self.assertGreater(left_some, 5)
        self.assertGreater(several, 5)

    def test_one_plan(self):
        one = plan_of(None, [(RATE, True)])
        self.assertEqual([parting_runs([one]), parting_runs(plans=[one, one])], [[], []])
        told = parting_runs([one, one.marked(0, "fold")])
        self.assertEqual(len(told), 1)
        told.clear()
        self.assertEqual(len(parting_runs([one, one.marked(0, "fold"), one, one.marked(0, "begin")])), 2)

    def test_two_hundred_plans(self):
        statement = Statement(("and", (("is", RATE, 1), ("is", LOOK_X, 0))), [(RATE, False), (LOOK_X, True)])
        plans = plans_for(BOOK, statement, [])[60:260]
        self.assertEqual(len(plans), 200)
        told = parting_runs(plans)
        left = [plan for plan in plans if goes_with(plan, told)]
        self.assertEqual(left, [plan for plan in plans if self.check(plans[0], plan) is None])


class TestGreat(unittest.TestCase):
    """Statements of eight calls, books of eight functions and six cells; too many states and tables."""

    def setUp(self):
        cells = [Cell("c" + letter, "table") for letter in "abcdef"]
        functions = [Function("f" + letter, 2, ("plus", ("arg", 0), ("cell", "c" + letter)), label="statement") for letter in "abcdef"]
        functions += [Function("fg", 1, ("cell", "ca"), label="session"), Function("fh", 1, 0, label="always")]
        self.book = Book(cells, functions)

    def plan(self, letters, second):
        calls = [("f" + letter, ("x", second)) for letter in letters] + [("fh", (1,)), ("fg", (0,))]
        tree = ("and", tuple(("is", call, 1) for call in calls[:3]))
        return Plan(self.book, Statement(tree, [(call, False) for call in calls[3:]]))

    def test_six_cells(self):
        # 1 + 3 + 9 tables and 729 states; 1 + 9 + 81 tables and 81.
        for letters, second in [("abcdef", 0), ("abcd", "y")]:
            plan = self.plan(letters, second)
            other = plan.changed("orders", [(0, 2, 1)])
            told = parting_run(plan, other)
            self.assertEqual([goes_with(plan, [told]), goes_with(other, [told])], [True, False])
            self.assertIsNone(parting_run(plan, plan.changed("phases", "filters")))
            self.assertEqual(parting_runs([plan, plan.changed("phases", "filters")]), [])

    def test_too_many(self):
        plan = self.plan("abcdef", "y")
        twin = plan.changed("phases", "filters")
        self.assertEqual(refused(self, TooMany, lambda: parting_run(plan, twin)).limit, 20000)
        self.assertEqual(refused(self, TooMany, lambda: parting_run(plan, plan)).limit, 20000)
        self.assertEqual(parting_runs([plan]), [])
        self.assertEqual(refused(self, TooMany, lambda: parting_runs([plan, twin])).limit, 20000)
        self.assertEqual(refused(self, BadPlan, lambda: parting_runs([plan, twin, None])).plan, None)


class TestRefused(unittest.TestCase):
    def setUp(self):
        self.plan = plan_of(("is", LOOK_X, 1), [(UP, True)])
        self.statement = self.plan.statement
        self.counts = {"look": 1, "up": 0}

    def test_states_and_tables(self):
        for call in [counts_of, told_run]:
            for value in oddities() + [{}, {**START, "more": 0}]:
                if not isinstance(value, dict) or len(value) != 2:
                    self.assertIsNone(refused(self, BadState, lambda: call(self.plan, value, None)).name)
            self.assertEqual(refused(self, BadState, lambda: call(self.plan, {"z": 0, "s": 3}, None)).name, "s")
            for value in oddities() + NO_TABLES:
                if not isinstance(value, (list, tuple)):
                    self.assertIsNone(refused(self, BadTable, lambda: call(self.plan, START, value)).index)
            self.assertEqual(refused(self, BadTable, lambda: call(self.plan, START, [(0, 0), (0, 3)])).index, 1)
            self.assertEqual(refused(self, TooMany, lambda: call(self.plan, START, [(0, 0)] * 7)).limit, 6)

    def wrong_runs(self):
        """What is no told run."""
        runs = oddities() + [(START, [(0, 0)]), [START, [(0, 0)], self.counts], (START, [(0, 0)], self.counts, 1)]
        runs += [(value, [(0, 0)], self.counts) for value in oddities() + [{"z": 0}, {"z": 0, "s": 0, "k": 0}, {"z": 0, "s": True}]]
        runs += [(START, value, self.counts) for value in NO_TABLES + [one for one in oddities() if not isinstance(one, tuple) or one]]
        counts = [{"look": 1}, {"look": 1, "up": 0, "rate": 0}, {"look": 1, "rate": 0}, {"look": -1, "up": 0}, {"look": True, "up": 0},
                  {"look": "1", "up": 0}, {"look": None, "up": 0}, {}, [("look", 1), ("up", 0)]]
        return runs + [(START, [(0, 0)], value) for value in oddities() + counts]

    def test_runs(self):
        calls = [lambda runs: goes_with(self.plan, runs), lambda runs: plans_for(BOOK, self.statement, runs),
                 lambda runs: marks_told(BOOK, self.statement, runs)]
        good = (START, [(0, 0)], self.counts)
        for call in calls:
            for value in oddities():
                if not isinstance(value, (list, tuple)):
                    self.assertIsNone(refused(self, BadRun, lambda: call(value)).index)
            for value in self.wrong_runs():
                self.assertEqual(refused(self, BadRun, lambda: call([good, value, None])).index, 1)
                self.assertEqual(refused(self, BadRun, lambda: call((value,))).index, 0)

    def test_calls_ahead_of_runs(self):
        wrong = Statement(("is", LOOK_X, 1), [(("up", (1,)), True)])
        for call in [plans_for, marks_told]:
            self.assertEqual(refused(self, BadCall, lambda: call(BOOK, wrong, None)).index, 1)
            many = Statement(None, [(RATE, False)] * 4)
            self.assertIsNone(refused(self, BadRun, lambda: call(BOOK, many, None)).index)

    def test_plans(self):
        kept = self.plan.changed("kept", True)
        others = [kept, plan_of(("is", LOOK_X, 2), [(UP, True)]),
                  plan_of(self.statement.condition, self.statement.outputs, BOOK.labelled({"top": "always"}))]
        for value in oddities() + [BOOK, kept]:
            self.assertIs(refused(self, BadPlan, lambda: parting_run(value, None)).plan, value)
            self.assertIs(refused(self, BadPlan, lambda: parting_runs([value, None])).plan, value)
        for value in oddities() + others:
            self.assertIs(refused(self, BadPlan, lambda: parting_run(self.plan, value)).plan, value)
            self.assertIs(refused(self, BadPlan, lambda: parting_runs([self.plan, self.plan, value, None])).plan, value)
        for value in oddities() + [[], ()]:
            if not isinstance(value, (list, tuple)) or len(value) == 0:
                self.assertIsNone(refused(self, BadPlan, lambda: parting_runs(value)).plan)
