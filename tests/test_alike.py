"""Points [3](b), [12] and [13]: whether plans are alike, and differences."""

import random
import unittest

import plain
import reference
from oddities import oddities
from refusals import refused
from steadycalls.alike import alike_orders, are_alike, difference, is_difference, phases_free
from steadycalls.books import Book
from steadycalls.errors import BadPlan, TooMany
from steadycalls.functions import Function
from steadycalls.oracles import Oracle
from steadycalls.plans import Plan, orders_of
from steadycalls.plays import folded, play
from steadycalls.statements import Statement
from test_statements import NO_TABLES

LETTERS = "abcdefgh"
STEADY = Book([], [Function("f" + letter, 2, 0, label="always") for letter in LETTERS])
CHANGING = Book([], [Function("f" + letter, 2, 0) for letter in LETTERS])
MIXED = Book([], [
    Function("al", 1, 0, label="always"), Function("se", 0, 0, label="session"), Function("st", 0, 0, label="statement"),
    Function("ch", 0, 0), Function("up", 1, 0),
])
SE, ST, CH = ("se", ()), ("st", ()), ("ch", ())


def eight(word):
    """A tree of eight calls with both columns."""
    return (word, tuple(("is", ("f" + letter, ("x", "y")), 1) for letter in LETTERS))


def deepest(word):
    """A tree eight deep of eight calls."""
    tree = ("is", ("fa", ("x", "y")), 1)
    for letter in LETTERS[1:]:
        tree = (word, (("is", ("f" + letter, ("x", "y")), 1), tree))
    return tree


def plan_of(condition, outputs=(), book=MIXED, **parts):
    return Plan(book, Statement(condition, outputs), **parts)


class TestExamples(unittest.TestCase):
    def check(self, one, other, rows):
        """Look at what is told of two plans that differ first on so many rows; None: that are alike."""
        for first, second in [(one, other), (other, one)]:
            told = difference(other=second, one=first)
            self.assertIs(are_alike(first, second), rows is None)
            if rows is None:
                self.assertIsNone(told)
            else:
                table, values = told
                self.assertEqual((len(table), type(told), type(table), type(values)), (rows, tuple, list, dict))
                self.assertNotEqual(Oracle(values).judge(first, table), Oracle(values).judge(second, table))
                self.assertIs(is_difference(first, second, told), True)

    def test_the_one_of_the_document(self):
        book = Book([], [Function("f", 1, ("arg", 0), label="always"), Function("h", 1, ("arg", 0))])
        plan = Plan(book, Statement(("and", (("is", ("f", ("x",)), 1), ("is", ("h", ("x",)), 1)))))
        told = [are_alike(plan, plan.changed("orders", [(1, 0)])), alike_orders(plan)]
        self.assertEqual(told, [False, [((0, 1),)]])

    def test_orders_of_steady_calls_are_free(self):
        for word in ["and", "or"]:
            one = plan_of(eight(word), book=STEADY)
            self.check(one, one.changed("orders", [tuple(range(8))[::-1]]), None)
            deep = plan_of(deepest(word), book=STEADY)
            self.check(deep, deep.changed("orders", [(1, 0)] * 7), None)

    def test_orders_of_changing_calls_are_not(self):
        one = plan_of(eight("and"), book=CHANGING)
        self.check(one, one.changed("orders", [(0, 1, 2, 3, 4, 5, 7, 6)]), 1)
        deep = plan_of(deepest("or"), book=CHANGING)
        self.check(deep, deep.changed("orders", [(0, 1)] * 6 + [(1, 0)]), 1)
        self.check(deep, deep, None)

    def test_a_steady_call_ahead_of_a_changing_one(self):
        tree = ("and", (("is", SE, 1), ("is", ST, 1), ("is", CH, 1)))
        plan = plan_of(tree)
        self.assertEqual(alike_orders(plan=plan), [((0, 1, 2),), ((1, 0, 2),)])
        self.assertEqual(alike_orders(plan.changed("orders", [(2, 1, 0)])), [((2, 0, 1),), ((2, 1, 0),)])
        self.check(plan, plan.changed("orders", [(0, 2, 1)]), 1)

    def test_equal_changing_calls_change_places(self):
        tree = ("and", (("is", CH, 1), ("is", CH, 1)))
        self.check(plan_of(tree), plan_of(tree, orders=[(1, 0)]), None)
        tree = ("and", (("is", CH, 1), ("is", CH, 2)))
        self.check(plan_of(tree), plan_of(tree, orders=[(1, 0)]), 1)

    def test_what_is_never_true_or_never_false(self):
        never = ("and", (("is", SE, 1), ("is", SE, 2), ("is", CH, 0)))
        self.assertEqual(alike_orders(plan_of(never)), [((0, 1, 2),), ((1, 0, 2),)])
        self.check(plan_of(never), plan_of(never, phases="filters"), None)
        always = ("or", (("is", SE, 0), ("is", SE, 1), ("is", SE, 2), ("is", CH, 0)))
        alike = [orders for orders in orders_of(Statement(always)) if orders[0].index(3) == 3]
        self.assertEqual(alike_orders(plan_of(always)), alike)

    def test_marks_of_steady_calls(self):
        tree, outputs = ("is", SE, 1), [(ST, True), (SE, False), (("al", (0,)), True)]
        one = plan_of(tree, outputs)
        for marks in [["memo"] * 4, ["begin"] * 4, ["each", "each", "gone", "each"], ["fold", "each", "each", "each"],
                      ["each", "each", "fold", "fold"]]:
            self.check(one, one.changed("marks", marks), None)
        self.check(one, one.marked(1, "fold"), 1)

    def test_folds_of_kept_plans(self):
        tree, outputs = ("is", SE, 1), [(ST, True), (SE, False), (("al", (0,)), True)]
        one = plan_of(tree, outputs, kept=True)
        for index, rows in [(0, 1), (1, 1), (2, None), (3, None)]:
            self.check(one, one.marked(index, "fold"), rows)
        self.check(one.marked(1, "fold"), one.marked(1, "fold").marked(2, "fold"), None)
        # A folded value that alone decides what is shown is another value than the present one.
        same = plan_of(("and", (("is", ST, 1), ("is", ST, 1))), kept=True)
        self.check(same, same.marked(0, "fold"), 1)
        self.check(same.marked(0, "fold"), same.marked(1, "fold"), None)

    def test_values_that_are_known_by_the_filter(self):
        tree = ("and", (("is", ST, 1), ("is", SE, 1)))
        outputs = [(ST, True), (SE, True)]
        one = plan_of(tree, outputs, marks=["fold", "each", "fold", "each"])
        other = plan_of(tree, outputs, marks=["fold", "each", "fold", "each"], orders=[(1, 0)])
        self.check(one, other, None)
        self.check(one, one.marked(2, "each"), 1)

    def test_phases(self):
        self.check(plan_of(None, [(CH, True)]), plan_of(None, [(CH, True)], phases="filters"), None)
        self.check(plan_of(("is", CH, 1)), plan_of(("is", CH, 1), phases="filters"), None)
        both = plan_of(("is", CH, 1), [(("up", (0,)), False)])
        self.check(both, both.changed("phases", "filters"), 2)
        same = plan_of(("is", CH, 1), [(CH, False)])
        self.check(same, same.changed("phases", "filters"), 2)
        hidden = plan_of(("or", (("is", CH, 0), ("is", CH, 1), ("is", CH, 2), ("is", SE, 0))), [(CH, False)])
        self.check(hidden, hidden.changed("phases", "filters"), 2)
        apart = plan_of(("or", (("is", SE, 1), ("and", (("is", CH, 0), ("is", SE, 1))))), [(CH, True)])
        self.check(apart, apart.changed("phases", "filters"), None)
        for plan, free in [(both, False), (same, False), (apart, True), (plan_of(None), True)]:
            self.assertIs(phases_free(plan=plan), free)
            self.assertIs(phases_free(plan.changed("phases", "filters")), free)

    def test_unlike_with_phases_and_orders(self):
        tree = ("and", (("is", SE, 1), ("is", ST, 1), ("is", CH, 0)))
        one = plan_of(tree, [(CH, True)])
        self.check(one, one.changed("orders", [(1, 0, 2)]).changed("phases", "filters"), 2)
        self.check(one, one.changed("orders", [(2, 0, 1)]).changed("phases", "filters"), 1)

    def test_one_row_is_enough_where_it_is(self):
        one = plan_of(eight("and"), [], book=CHANGING)
        other = one.changed("orders", [tuple(range(8))[::-1]]).changed("phases", "filters")
        self.check(one, other, 1)

    def test_statements_of_eight_calls(self):
        tree = ("or", tuple(("is", ("f" + letter, ("x", "y")), 2) for letter in "abcd"))
        outputs = [(("f" + letter, ("y", 1)), letter in "eg") for letter in "efgh"]
        one = plan_of(tree, outputs, book=STEADY)
        other = one.changed("marks", ["memo"] * 5 + ["gone", "each", "gone"]).changed("phases", "filters")
        self.check(one, other.changed("orders", [(3, 0, 2, 1)]), None)


class TestAsTheDocumentSays(unittest.TestCase):
    def plans(self, seed, most=4):
        chance = random.Random(seed)
        names = [["al", "se", "up"], ["se", "up", "ch"], ["up", "st", "se"], None][seed % (3 if most == 4 else 4)]
        one = plain.some_plan(chance, plain.BOOK, plain.some_statement(chance, plain.BOOK, most, names))
        if seed % 3 == 2:
            return chance, one, one.changed("phases", "rows" if one.phases == "filters" else "filters")
        return chance, one, plain.near_plan(chance, one)

    def test_rows_and_values(self):
        counts = {}
        for seed in range(400):
            _, one, other = self.plans(seed, 3 if seed % 4 else 4)
            rows = plain.first_unlike(one, other)
            told = difference(one, other)
            counts[rows] = counts.get(rows, 0) + 1
            self.assertEqual(None if told is None else len(told[0]), rows)
            if told is not None:
                heard = [plain.hear(plan, *told) for plan in (one, other)]
                self.assertNotEqual(heard[0][:2], heard[1][:2])
                self.assertEqual(set(told[1]), set(heard[0][2]) | set(heard[1][2]))
                self.assertIs(is_difference(one, other, told), True)
        self.assertGreater(min(counts.get(rows, 0) for rows in (None, 1, 2)), 4, counts)

    def test_orders_and_phases(self):
        for seed in range(60):
            _, one, _ = self.plans(seed, 3)
            alike = [orders for orders in orders_of(one.statement)
                     if plain.first_unlike(one, one.changed("orders", orders)) is None]
            self.assertEqual(alike_orders(one), alike)
            other = one.changed("phases", "rows" if one.phases == "filters" else "filters")
            self.assertIs(phases_free(one), plain.first_unlike(one, other) is None)

    def test_alike_plans_are_seen_alike(self):
        for seed in range(400):
            chance, one, other = self.plans(seed, 6)
            if not are_alike(one, other):
                continue
            table = plain.some_table(chance)
            state = reference.some_state(chance, plain.BOOK)
            planning = dict(state)
            for cell in plain.BOOK.all_cells():
                if cell.kind == "table" or cell.kind == "setting" and one.kept:
                    planning[cell.name] = chance.randrange(3)
            seen = [play(plan, state, table, folds=folded(plan, planning))[:2] for plan in (one, other)]
            self.assertEqual(seen[0], seen[1])

    def test_names_and_columns_change_nothing(self):
        names = {"al": "q", "se": "al", "st": "bb", "two": "c", "up": "zz", "ch": "aa"}
        cells = plain.BOOK.all_cells()
        functions = [Function(names[name], plain.BOOK[name].arguments, 0, label=plain.BOOK[name].label) for name in names]
        book = Book(cells, [function for function in functions if function.name not in "zsku"])
        swap = {"x": "y", "y": "x"}

        def renamed(part):
            if isinstance(part, tuple) and len(part) == 2 and part[0] in names and isinstance(part[1], tuple):
                return (names[part[0]], tuple(swap.get(given, given) for given in part[1]))
            return tuple(renamed(inner) for inner in part) if isinstance(part, tuple) else part

        for seed in range(150):
            _, one, other = self.plans(seed)
            statement = Statement(renamed(one.statement.condition), renamed(one.statement.outputs))
            first, second = [Plan(book, statement, orders=plan.orders, phases=plan.phases, marks=plan.marks, kept=plan.kept)
                             for plan in (one, other)]
            told, beside = difference(one, other), difference(first, second)
            self.assertEqual(told is None, beside is None)
            if told is not None:
                self.assertEqual(len(told[0]), len(beside[0]))
            self.assertEqual(alike_orders(one), alike_orders(first))
            self.assertEqual(phases_free(one), phases_free(first))

    def test_marks_are_alike_to_the_plain_plan(self):
        for seed in range(150):
            chance, one, _ = self.plans(seed, 5)
            plan = Plan(plain.BOOK, one.statement, marks=["each" if mark == "fold" else mark for mark in one.marks])
            self.assertIs(are_alike(plan, plan.plain()), True)


class TestIsDifference(unittest.TestCase):
    def setUp(self):
        self.one = plan_of(("and", (("is", SE, 1), ("is", CH, 1))), [(("al", ("x",)), False)])
        self.other = self.one.changed("orders", [(1, 0)])
        self.table = [(0, 0)]
        self.values = {("steady", "se", ()): 0, ("result", 0): 1}

    def check(self, value, told):
        self.assertIs(is_difference(self.one, self.other, value), told)
        self.assertIs(is_difference(value=value, other=self.one, one=self.other), told)

    def test_tables(self):
        self.check((self.table, self.values), True)
        self.check((tuple(self.table), self.values), True)
        self.check(([(2, 1)], self.values), True)
        self.check(([(0, 0), (1, 2)], {**self.values, ("result", 1): 0}), True)
        self.check(([(0, 0)] * 3, {**self.values, ("result", 1): 0, ("result", 2): 0}), False)
        self.check(([], self.values), False)
        for table in NO_TABLES + oddities():
            self.check((table, self.values), False)
        for row in oddities():
            self.check(([row], self.values), False)

    def test_values(self):
        self.check((self.table, {**self.values, ("result", 7): 0, ("folded", "none", (1, 1)): 2}), True)
        self.check((self.table, {("steady", "se", ()): 0, ("result", 0): 0}), True)
        passing = {("steady", "se", ()): 1, ("result", 0): 1}
        self.check((self.table, passing), False)
        self.check((self.table, {**passing, ("steady", "al", (0,)): 0}), False)
        self.check((self.table, {("steady", "se", ()): 0}), False)
        self.check((self.table, {("result", 0): 1}), False)
        self.check((self.table, {("folded", "se", ()): 0, ("result", 0): 1}), False)
        for value in oddities() + [3, True, -1]:
            self.check((self.table, {**self.values, ("result", 0): value}), False)
            self.check((self.table, {**self.values, ("result", 3): value}), False)
            self.check((self.table, value), False)
        self.check((self.table, {**self.values, "result": 0}), False)
        self.check((self.table, {**self.values, ("result", -1): 0}), False)

    def test_hidden_outputs_are_asked_for(self):
        one = plan_of(None, [(SE, False), (ST, True)], kept=True)
        other = one.marked(1, "fold")
        values = {("steady", "st", ()): 0, ("folded", "st", ()): 1}
        self.assertIs(is_difference(one, other, ([(0, 0)], values)), False)
        self.assertIs(is_difference(one, other, ([(0, 0)], {**values, ("steady", "se", ()): 0})), True)
        gone = [plan.marked(0, "gone") for plan in (one, other)]
        self.assertIs(is_difference(*gone, ([(0, 0)], values)), True)

    def test_other_forms(self):
        good = (self.table, self.values)
        for value in oddities() + [list(good), good + ({},), good[:1], good[::-1], (self.values,), ("unlike",) + good]:
            self.check(value, False)
        self.assertIs(is_difference(self.one, self.one, good), False)


class TestRefused(unittest.TestCase):
    def test_plans(self):
        one = plan_of(("is", SE, 1))
        calls = [difference, are_alike, lambda first, second: is_difference(first, second, None)]
        for call in calls:
            for value in oddities() + [one.statement, MIXED]:
                self.assertIs(refused(self, BadPlan, lambda: call(value, value)).plan, value)
                self.assertIs(refused(self, BadPlan, lambda: call(one, value)).plan, value)
                self.assertIs(refused(self, BadPlan, lambda: call(value, one)).plan, value)
            for other in [plan_of(("is", SE, 2)), plan_of(("is", SE, 1), [(SE, True)]), one.changed("kept", True),
                          Plan(MIXED.labelled({"ch": "session"}), one.statement), plan_of(None)]:
                self.assertIs(refused(self, BadPlan, lambda: call(one, other)).plan, other)
        for call in [alike_orders, phases_free]:
            for value in oddities() + [one.statement, MIXED]:
                self.assertIs(refused(self, BadPlan, lambda: call(value)).plan, value)

    def test_too_many_orders(self):
        plan = plan_of(eight("and"), book=STEADY)
        self.assertEqual(refused(self, TooMany, lambda: alike_orders(plan)).limit, 1000)
        six = plan_of(("or", eight("and")[1][:6]), book=STEADY)
        self.assertEqual(alike_orders(six), list(orders_of(six.statement)))
