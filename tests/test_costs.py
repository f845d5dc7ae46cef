"""Points [11], [12], [13] and [19]: what plans cost, and which ones are never dearer."""

import itertools
import random
import unittest

import plain
from oddities import oddities
from refusals import refused
from steadycalls.alike import are_alike
from steadycalls.books import Book
from steadycalls.costs import begin_cost, cost_of, dearer, is_never_dearer, with_memos
from steadycalls.errors import BadMark, BadPlan, BadTable, BadToken
from steadycalls.functions import Function
from steadycalls.oracles import is_token
from steadycalls.plans import Plan
from steadycalls.plays import sights
from steadycalls.statements import Statement

FUNCTIONS = [
    Function("al", 0, 0, label="always", cost=2), Function("se", 1, 0, label="session", cost=10),
    Function("st", 2, 0, label="statement", cost=50), Function("ch", 1, 0, cost=99), Function("free", 0, 0, cost=0),
]
BOOK = Book([], FUNCTIONS)
AL, SE, ST, CH, FREE = ("al", ()), ("se", ("x",)), ("st", ("x", "y")), ("ch", ("x",)), ("free", ())
SE_ONE = ("se", (1,))


def plan_of(condition, outputs=(), book=BOOK, **parts):
    return Plan(book, Statement(condition, outputs), **parts)


def plain_cost(plan, rows, values):
    """The cost, told in the plainest way; raises plain.Asked."""
    calls = plan.statement.all_calls()
    many = len(plan.statement.atoms())
    total = sum(plan.book[name].cost for (name, _), mark in zip(calls, plan.marks) if mark == "begin")
    memos = []
    results = 0

    def value(index, at):
        nonlocal total, results
        call = plain.put_in_columns(calls[index], rows[at])
        label, mark = plan.book[call[0]].label.name, plan.marks[index]
        if mark == "each" or mark == "memo" and call not in memos:
            total += plan.book[call[0]].cost
        if mark == "memo":
            memos.append(call)
        token = ("steady",) + call
        if label == "changing":
            token = ("result", results)
            results += 1
        elif mark == "fold" and not (label == "always" or label == "session" and not plan.kept):
            token = ("folded",) + call
        if index >= many:
            return 0
        if token not in values:
            raise plain.Asked(token)
        return values[token]

    plain.go(plan, rows, value)
    return total


def all_values(plans, rows):
    """All values of the tokens that an `is` of some plans asks for."""
    waiting = [{}]
    while waiting:
        values = waiting.pop()
        try:
            costs = [plain_cost(plan, rows, values) for plan in plans]
        except plain.Asked as e:
            waiting += [{**values, e.args[0]: value} for value in range(3)]
        else:
            yield values, costs


class TestCostOf(unittest.TestCase):
    def test_each(self):
        plan = plan_of(("and", (("is", AL, 1), ("is", SE, 1))), [(ST, True), (FREE, False)])
        no, one, both = {("steady", "al", ()): 0}, {("steady", "al", ()): 1, ("steady", "se", (0,)): 0}, {
            ("steady", "al", ()): 1, ("steady", "se", (0,)): 1}
        self.assertEqual([cost_of(plan, [(0, 0)], values) for values in [no, one, both]], [2, 12, 62])
        self.assertEqual(cost_of(values=both, rows=((0, 0), (0, 1), (0, 0)), plan=plan), 186)
        self.assertEqual(cost_of(plan, [], {}), 0)
        self.assertEqual(cost_of(plan.changed("orders", [(1, 0)]), [(0, 0)], {("steady", "se", (0,)): 0}), 10)

    def test_marks(self):
        outputs = [(SE, True), (SE, False), (SE_ONE, True), (SE_ONE, False)]
        rows = [(0, 0), (1, 0), (1, 2), (0, 0)]
        for marks, told in [(["each"] * 4, 160), (["memo"] * 4, 20), (["each", "memo", "memo", "memo"], 60),
                            (["each", "each", "begin", "begin"], 100), (["each", "gone", "fold", "gone"], 40),
                            (["gone"] * 2, None), (["memo", "gone", "begin", "fold"], 30)]:
            if told is not None:
                self.assertEqual(cost_of(plan_of(None, outputs, marks=marks), rows, {}), told)

    def test_memos_are_told_by_functions_and_arguments(self):
        both = Book([], [Function("f", 1, 0, label="always", cost=7), Function("g", 1, 0, label="always", cost=5)])
        outputs = [(("f", ("x",)), True), (("f", ("y",)), True), (("g", ("x",)), True), (("f", (0,)), True)]
        plan = plan_of(None, outputs, both, marks=["memo"] * 4)
        self.assertEqual([cost_of(plan, rows, {}) for rows in [[(0, 0)], [(0, 1)], [(2, 1)], [(2, 1), (1, 2)]]], [12, 19, 26, 31])

    def test_begin_with_rows_or_not(self):
        plan = plan_of(("is", SE_ONE, 1), [(AL, True), (AL, False)], marks=["begin", "begin", "fold"], kept=True)
        self.assertEqual([begin_cost(plan), begin_cost(plan=plan.plain())], [12, 0])
        self.assertEqual([cost_of(plan, [(0, 0)] * many, {("steady", "se", (1,)): 1}) for many in range(3)], [12, 12, 12])
        self.assertEqual(begin_cost(plan.changed("marks", ["begin", "begin", "begin"])), 14)
        self.assertEqual(cost_of(plan, [], {}), 12)

    def test_folded_tokens(self):
        plan = plan_of(("is", ("st", (0, 1)), 2), [(AL, True)], marks=["fold", "each"])
        self.assertEqual(cost_of(plan, [(0, 0)], {("folded", "st", (0, 1)): 2}), 2)
        self.assertEqual(cost_of(plan, [(0, 0)], {("folded", "st", (0, 1)): 1}), 0)
        wrong = {("steady", "st", (0, 1)): 2}
        self.assertEqual(refused(self, BadToken, lambda: cost_of(plan, [(0, 0)], wrong)).token, ("folded", "st", (0, 1)))
        for kept, word in [(False, "steady"), (True, "folded")]:
            plan = plan_of(("is", SE_ONE, 2), marks=["fold"], kept=kept)
            self.assertEqual(cost_of(plan, [(0, 0)], {(word, "se", (1,)): 0}), 0)

    def test_results_are_numbered_as_the_plan_goes(self):
        plan = plan_of(("is", CH, 1), [(CH, True), (AL, True)])
        rows = [(0, 0), (1, 0)]
        values = {("result", 0): 1, ("result", 1): 0, ("result", 2): 1}
        self.assertEqual(cost_of(plan, rows, values), 99 * 4 + 4)
        self.assertEqual(cost_of(plan.changed("phases", "filters"), rows, values), 99 * 3 + 2)
        self.assertEqual(refused(self, BadToken, lambda: cost_of(plan, rows, {("result", 0): 1, ("result", 1): 1})).token, ("result", 2))

    def test_asked_as_the_plan_goes(self):
        tree = ("and", (("is", SE, 1), ("or", (("is", ST, 1), ("is", AL, 0)))))
        for orders, first in [(None, ("steady", "se", (2,))), ([(1, 0), (0, 1)], ("steady", "st", (2, 1))),
                              ([(1, 0), (1, 0)], ("steady", "al", ()))]:
            plan = plan_of(tree, [(ST, True)], orders=orders)
            self.assertEqual(refused(self, BadToken, lambda: cost_of(plan, [(2, 1)], {})).token, first)
        # Outputs ask for nothing, but what is begun is asked for where it is needed.
        plan = plan_of(("or", (("is", AL, 0), ("is", SE_ONE, 1))), [(ST, True)], marks=["each", "begin", "each"])
        self.assertEqual(cost_of(plan, [(0, 0)], {("steady", "al", ()): 0}), 62)
        told = refused(self, BadToken, lambda: cost_of(plan, [(0, 0)], {("steady", "al", ()): 1}))
        self.assertEqual(told.token, ("steady", "se", (1,)))

    def test_a_thousand_rows(self):
        tree = ("or", (("is", SE, 1), ("is", ("ch", ("y",)), 1)))
        outputs = [(ST, True)] * 5 + [(SE, False)]
        rows = [(at % 3, at % 2) for at in range(1000)]
        values = {("steady", "se", (value,)): 1 if value == 0 else 0 for value in range(3)}
        results = {("result", at): 1 if at % 2 else 0 for at in range(1000)}
        asked = 666
        passed = 334 + asked // 2
        each = plan_of(tree, outputs)
        self.assertEqual(cost_of(each, rows, {**values, **results}), 10000 + asked * 99 + passed * 260)
        self.assertEqual(cost_of(each.changed("phases", "filters"), rows, {**values, **results}), 10000 + asked * 99 + passed * 260)
        self.assertEqual(cost_of(with_memos(each), rows, {**values, **results}), 30 + asked * 99 + 4 * 50)
        self.assertEqual(cost_of(plan_of(tree, [(ST, False)] * 6, marks=["memo", "each"] + ["gone"] * 6), rows, {**values, **results}),
                         30 + asked * 99)

    def test_as_the_document_says(self):
        for seed in range(300):
            chance = random.Random(seed)
            statement = plain.some_statement(chance, BOOK, 7)
            plan = plain.some_plan(chance, BOOK, statement)
            rows = plain.some_table(chance, 8)
            values = {}
            while True:
                try:
                    told = plain_cost(plan, rows, values)
                    break
                except plain.Asked as e:
                    self.assertEqual(refused(self, BadToken, lambda: cost_of(plan, rows, values)).token, e.args[0])
                    values[e.args[0]] = chance.randrange(3)
            self.assertEqual(cost_of(plan, rows, values), told)
            self.assertEqual(begin_cost(plan), plain_cost(plan, [], {}))

    def test_goes_with_plays(self):
        """What is played costs what its values cost, with calls counted one by one."""
        for seed in range(150):
            chance = random.Random(seed)
            statement = plain.some_statement(chance, plain.BOOK, 6)
            plan = plain.some_plan(chance, plain.BOOK, statement)
            state = {cell.name: chance.randrange(3) for cell in plain.BOOK.all_cells()}
            table = plain.some_table(chance)
            seen = list(sights(plan, state, table))
            calls = statement.all_calls()
            values, results = {}, 0
            for name in ["al", "se", "st", "two"]:
                for given in itertools.product(range(3), repeat=plan.book[name].arguments):
                    values[("steady", name, given)] = values[("folded", name, given)] = plain.World(plan.book, state).call(name, given)
            for _, index, value in seen:
                if not plan.label_of(index).is_steady():
                    values[("result", results)] = value
                    results += 1
            paid = sum(plan.book[calls[index][0]].cost for _, index, _ in seen)
            self.assertEqual(cost_of(plan, table, values), paid)


class TestWithMemos(unittest.TestCase):
    def test_marks(self):
        plan = plan_of(("and", (("is", SE, 1), ("is", CH, 1))), [(AL, False), (AL, True), (SE_ONE, False), (SE, True)],
                       marks=["each", "each", "gone", "begin", "fold", "memo"], phases="filters", kept=True)
        told = with_memos(plan=plan)
        self.assertEqual(told, plan.changed("marks", ["memo", "each", "gone", "begin", "fold", "memo"]))
        self.assertEqual(with_memos(told), told)

    def test_it_never_costs_more(self):
        less = 0
        for seed in range(150):
            chance = random.Random(seed)
            plan = plain.some_plan(chance, BOOK, plain.some_statement(chance, BOOK, 5))
            values = {("result", at): chance.randrange(3) for at in range(99)}
            for name, many in [("al", 0), ("se", 1), ("st", 2)]:
                for given in itertools.product(range(3), repeat=many):
                    values[("steady", name, given)], values[("folded", name, given)] = chance.randrange(3), chance.randrange(3)
            rows = plain.some_table(chance)
            one, other = cost_of(with_memos(plan), rows, values), cost_of(plan, rows, values)
            less += one < other
            self.assertLessEqual(one, other)
            self.assertIs(are_alike(plan, with_memos(plan)), True)
        self.assertGreater(less, 30)


class TestDearer(unittest.TestCase):
    def check(self, one, other):
        """What is told shows it: by equal rows, and by no fewer."""
        told = dearer(one, other)
        self.assertIs(is_never_dearer(one, other), told is None)
        if told is None:
            return None
        rows, values = told
        self.assertEqual((type(told), type(rows), type(values)), (tuple, list, dict))
        self.assertEqual(rows, rows[:1] * len(rows))
        self.assertTrue(all(is_token(token) and value in (0, 1, 2) for token, value in values.items()))
        costs = [(cost_of(one, rows[:many], values), cost_of(other, rows[:many], values)) for many in range(len(rows) + 1)]
        self.assertTrue(all(ahead <= behind for ahead, behind in costs[:-1]))
        self.assertGreater(*costs[-1])
        return told

    def test_orders(self):
        tree = ("and", (("is", AL, 1), ("is", ST, 1)))
        one = plan_of(tree)
        other = one.changed("orders", [(1, 0)])
        rows, values = self.check(one, other)
        self.assertEqual((len(rows), values[("steady", "al", ())], values[("steady", "st", (0, 0))] == 1), (1, 1, False))
        self.check(other, one)
        self.assertIsNone(self.check(one, one))

    def test_never_dearer(self):
        outputs = [(AL, False), (SE_ONE, True)]
        each = plan_of(("is", SE, 1), outputs)
        for marks in [["each", "gone", "fold"], ["each", "fold", "each"], ["each", "gone", "each"]]:
            other = each.changed("marks", marks)
            self.assertIsNone(self.check(other, each))
            self.assertEqual(len(self.check(each, other)[0]), 1)

    def test_no_rows(self):
        one = plan_of(("is", SE_ONE, 1), marks=["begin"])
        self.assertEqual(self.check(one, one.plain()), ([], {}))
        self.assertEqual(self.check(one, one.changed("marks", ["fold"])), ([], {}))

    def test_as_few_rows_as_possible(self):
        # At the begin 62 more, and 10 less for each row: 62 // 10 + 1.
        one = plan_of(None, [(AL, False), (("st", (0, 0)), False), (SE_ONE, False), (SE_ONE, False)])
        first = one.changed("marks", ["gone", "gone", "each", "each"])
        other = one.changed("marks", ["begin", "begin", "begin", "each"])
        self.assertEqual(self.check(first, other), ([(0, 0)] * 7, {}))
        self.assertEqual(self.check(other, first), ([], {}))
        even = one.changed("marks", ["gone", "begin", "begin", "gone"])
        self.assertEqual(self.check(one.changed("marks", ["gone", "gone", "gone", "each"]), even), ([(0, 0)] * 7, {}))

    def test_many_rows(self):
        book = Book([], [Function("big", 0, 0, label="always", cost=99), Function("low", 0, 0, label="always", cost=1)])
        outputs = [(("big", ()), False)] * 7 + [(("low", ()), True)]
        one = plan_of(None, outputs, book, marks=["gone"] * 7 + ["each"])
        other = plan_of(None, outputs, book, marks=["begin"] * 7 + ["fold"])
        self.assertEqual(self.check(one, other), ([(0, 0)] * 694, {}))

    def test_results_of_many_rows(self):
        tree = ("and", (("is", CH, 1), ("is", AL, 2)))
        outputs = [(CH, True), (SE_ONE, False), (("st", (1, 1)), False)]
        for phases in ["rows", "filters"]:
            one = plan_of(tree, outputs, phases=phases, marks=["each", "each", "each", "each", "gone"])
            other = one.changed("marks", ["each", "each", "each", "begin", "begin"])
            rows, values = self.check(one, other)
            self.assertEqual(len(rows), 7)
            results = [0, 2, 4, 6, 8, 10, 12] if phases == "rows" else range(7)
            self.assertEqual(values, {("steady", "al", ()): 2, **{("result", at): 1 for at in results}})

    def test_several_results_in_a_row(self):
        either = ("or", (("is", ST, 1), ("is", AL, 1)))
        tree = ("and", (("is", CH, 1), ("is", ("ch", (1,)), 2), ("not", ("is", CH, 1)), either))
        for phases in ["rows", "filters"]:
            one = plan_of(tree, [(CH, False), (SE_ONE, False)], phases=phases)
            other = one.changed("orders", [(0, 1, 2, 3), (1, 0)])
            rows, values = self.check(one, other)
            self.assertEqual([values[("result", at)] == told for at, told in enumerate([1, 2, 1])], [True, True, False])
            self.assertEqual((len(rows), set(values)), (1, {("result", 0), ("result", 1), ("result", 2), ("steady", "st", (0, 0)), ("steady", "al", ())}))

    def test_several_results_in_several_rows(self):
        either = ("or", (("is", ST, 1), ("is", AL, 1)))
        tree = ("and", (("is", CH, 1), ("is", ("ch", (1,)), 2), ("not", ("is", CH, 1)), either))
        hidden = [(CH, False), (("st", (0, 0)), False), (("st", (1, 1)), False)]
        for phases, results in [("rows", [0, 1, 2, 4, 5, 6, 8, 9, 10]), ("filters", range(9))]:
            one = plan_of(tree, hidden, phases=phases, marks=["each"] * 6 + ["gone", "gone"])
            other = plan_of(tree, hidden, phases=phases, marks=["each"] * 6 + ["begin", "begin"], orders=[(0, 1, 2, 3), (1, 0)])
            rows, values = self.check(one, other)
            self.assertEqual((len(rows), sorted(token[1] for token in values if token[0] == "result")), (3, list(results)))
            self.assertTrue(all(values[("result", at)] == [1, 2][place % 3] for place, at in enumerate(results) if place % 3 < 2))

    def test_eight_calls(self):
        calls = [("st", ("x", value)) for value in ["y", 0, 1, 2]] + [("se", (value,)) for value in ["x", "y", 0, 1]]
        plan = plan_of(("or", tuple(("is", call, 1) for call in calls)))
        self.check(plan, plan.changed("orders", [(7, 6, 5, 4, 3, 2, 1, 0)]))
        self.assertIsNone(self.check(plan.changed("orders", [(4, 5, 6, 7, 0, 1, 2, 3)]), plan.changed("orders", [(4, 5, 6, 7, 0, 1, 2, 3)])))

    def test_what_is_never_true(self):
        tree = ("and", (("or", (("is", AL, 0), ("is", AL, 1), ("is", AL, 2))), ("is", SE, 1), ("is", SE, 2), ("is", ST, 0)))
        one = plan_of(tree, orders=[(1, 2, 3, 0), (0, 1, 2)])
        self.check(plan_of(tree), one)
        self.assertIsNone(self.check(one, one.changed("orders", [(1, 2, 0, 3), (2, 1, 0)])))

    def test_as_the_document_says(self):
        told = never = 0
        for seed in range(700):
            chance = random.Random(seed)
            statement = plain.some_statement(chance, BOOK, 4)
            marks = [[mark for mark in plain.marks_let(BOOK, statement, index) if mark != "memo"] for index in range(len(statement))]
            one = plain.some_plan(chance, BOOK, statement).changed("marks", [chance.choice(let) for let in marks])
            other = plain.some_plan(chance, BOOK, statement, one.kept).changed("marks", [chance.choice(let) for let in marks])
            other = other.changed("phases", one.phases)
            if not are_alike(one, other):
                self.assertIs(refused(self, BadPlan, lambda: dearer(one, other)).plan, other)
                continue
            columns = [given for _, arguments in statement.all_calls() for given in arguments]
            is_dearer = begin_cost(one) > begin_cost(other)
            for row in plain.tables(1, columns):
                lead = plain_cost(one, [], {}) - plain_cost(other, [], {})
                is_dearer = is_dearer or any(ahead - behind > lead for _, (ahead, behind) in all_values([one, other], row))
            self.assertIs(self.check(one, other) is not None, is_dearer)
            told += is_dearer
            never += not is_dearer and one != other
        self.assertGreater(told, 100)
        self.assertGreater(never, 30)


class TestRefused(unittest.TestCase):
    def setUp(self):
        self.plan = plan_of(("and", (("is", SE, 1), ("is", CH, 1))), [(AL, True)])

    def test_plans(self):
        for value in oddities() + [BOOK, self.plan.statement]:
            for call in [lambda: cost_of(value, None, None), lambda: begin_cost(value), lambda: with_memos(value),
                         lambda: dearer(value, value), lambda: dearer(self.plan, value), lambda: is_never_dearer(value, None),
                         lambda: is_never_dearer(self.plan, value)]:
                self.assertIs(refused(self, BadPlan, call).plan, value)

    def test_rows(self):
        for value in oddities():
            if not isinstance(value, (list, tuple)):
                self.assertIsNone(refused(self, BadTable, lambda: cost_of(self.plan, value, None)).index)
        for value in oddities() + [(0,), [0, 0], (0, 3), (0, 0, 0), (True, 0)]:
            self.assertEqual(refused(self, BadTable, lambda: cost_of(self.plan, [(0, 0), value], None)).index, 1)
            self.assertEqual(refused(self, BadTable, lambda: cost_of(self.plan, [(0, 0)] * 999 + [value], {})).index, 999)

    def test_values(self):
        for value in oddities() + [[], [("result", 0)]]:
            if not isinstance(value, dict):
                self.assertIsNone(refused(self, BadToken, lambda: cost_of(self.plan, [], value)).token)

    def test_plans_of_others(self):
        other_book = plan_of(self.plan.statement.condition, self.plan.statement.outputs, Book([], FUNCTIONS[::-1]))
        for other in [self.plan.changed("kept", True), plan_of(self.plan.statement.condition), other_book]:
            self.assertIs(refused(self, BadPlan, lambda: dearer(self.plan, other)).plan, other)
            self.assertIs(refused(self, BadPlan, lambda: is_never_dearer(self.plan.marked(0, "memo"), other)).plan, other)

    def test_memo(self):
        memo = self.plan.marked(2, "memo")
        unlike = self.plan.changed("phases", "filters").changed("orders", [(1, 0)])
        self.assertEqual(refused(self, BadMark, lambda: dearer(memo.marked(0, "memo"), unlike)).index, 0)
        self.assertEqual(refused(self, BadMark, lambda: dearer(memo, memo.marked(0, "memo"))).index, 2)
        self.assertEqual(refused(self, BadMark, lambda: dearer(unlike, memo)).index, 2)
        self.assertEqual(refused(self, BadMark, lambda: is_never_dearer(self.plan, memo.marked(0, "memo"))).index, 0)

    def test_phases_and_unlike_plans(self):
        steady = plan_of(("is", SE, 1))
        for one, other in [(steady, steady.changed("phases", "filters")), (self.plan, self.plan.changed("orders", [(1, 0)])),
                           (self.plan, self.plan.changed("phases", "filters"))]:
            self.assertIs(refused(self, BadPlan, lambda: dearer(one, other)).plan, other)
            self.assertIs(refused(self, BadPlan, lambda: is_never_dearer(one, other)).plan, other)
