"""Point [11]: plans."""

import itertools
import random
import unittest

import plain
from oddities import oddities
from refusals import refused
from steadycalls.books import Book
from steadycalls.errors import BadCall, BadMark, BadOrder, BadPart, TooMany
from steadycalls.functions import Function
from steadycalls.labels import LABELS, Label
from steadycalls.plans import Plan, is_sound, least_label, marks_for, orders_of
from steadycalls.statements import Statement

BOOK = Book([], [
    Function("al", 1, 0, label="always"), Function("se", 1, 0, label="session"),
    Function("st", 1, 0, label="statement"), Function("ch", 1, 0),
])


def call(name, given="x"):
    return (name, (given,))


def tree(*numbers):
    """A tree with an `and` for each number, one within the other, of so many parts."""
    found = ("is", call("al"), 1)
    for number in numbers[::-1]:
        found = ("and", (found,) + (("is", call("al", 0), 1),) * (number - 1))
    return found


CONDITION = ("or", (("is", call("al"), 1), ("and", (("is", call("se", 0), 1), ("is", call("ch", 0), 0), ("is", call("st", 2), 0)))))
OUTPUTS = [(call("st", 1), False), (call("ch", 1), False), (call("al", "y"), False), (call("se", 0), True)]
STATEMENT = Statement(CONDITION, OUTPUTS)
ORDERS = ((1, 0), (2, 0, 1))
MARKS = ("memo", "fold", "each", "begin", "gone", "each", "gone", "fold")


def told(plan):
    return (plan.orders, plan.phases, plan.marks, plan.kept)


class TestPlan(unittest.TestCase):
    def setUp(self):
        self.plan = Plan(BOOK, STATEMENT, orders=ORDERS, phases="filters", marks=MARKS, kept=True)
        self.ahead = told(self.plan)

    def tearDown(self):
        self.assertEqual(told(self.plan), self.ahead)

    def test_attributes(self):
        self.assertEqual((self.plan.book, self.plan.statement), (BOOK, STATEMENT))
        self.assertEqual(told(self.plan), (ORDERS, "filters", MARKS, True))
        same = Plan(kept=True, marks=list(MARKS), phases="filters", orders=list(ORDERS), statement=STATEMENT, book=BOOK)
        self.assertEqual(same, self.plan)
        self.assertEqual((type(same.orders), type(same.marks)), (tuple, tuple))

    def test_what_is_left_out(self):
        plan = Plan(BOOK, STATEMENT)
        self.assertEqual(told(plan), (((0, 1), (0, 1, 2)), "rows", ("each",) * 8, False))
        self.assertEqual(told(Plan(BOOK, Statement(None))), ((), "rows", (), False))
        self.assertEqual(plan, Plan(BOOK, STATEMENT, orders=None, marks=None))
        self.assertIs(plan.kept, False)

    def test_named_parts_are_given_by_name_only(self):
        self.assertRaises(TypeError, Plan, BOOK, STATEMENT, None)

    def test_lists_stay_apart(self):
        orders, marks = list(ORDERS), list(MARKS)
        plan = Plan(BOOK, STATEMENT, orders=orders, marks=marks)
        orders.clear()
        marks.clear()
        self.assertEqual((plan.orders, plan.marks), (ORDERS, MARKS))

    def test_equal(self):
        self.assertIs(self.plan == Plan(BOOK, STATEMENT, orders=ORDERS, phases="filters", marks=MARKS, kept=True), True)
        others = [
            self.plan.changed("orders", None), self.plan.changed("phases", "rows"), self.plan.changed("marks", None),
            self.plan.changed("kept", False), self.plan.plain(), None, STATEMENT, object(),
            Plan(BOOK.labelled({"al": "session"}), STATEMENT, orders=ORDERS, phases="filters", marks=MARKS, kept=True),
            Plan(BOOK, Statement(CONDITION, OUTPUTS[:3] + [(call("se", 1), True)]), orders=ORDERS, phases="filters",
                 marks=MARKS, kept=True),
        ]
        for other in others:
            self.assertIs(self.plan == other, False)

    def test_changed(self):
        for part, value in [("orders", ((0, 1), (1, 0, 2))), ("phases", "rows"), ("marks", ("each",) * 8), ("kept", False)]:
            other = self.plan.changed(value=value, part=part)
            self.assertEqual(getattr(other, part), value)
            for rest in {"orders", "phases", "marks", "kept"} - {part}:
                self.assertEqual(getattr(other, rest), getattr(self.plan, rest))
        self.assertEqual(self.plan.changed("orders", None).orders, ((0, 1), (0, 1, 2)))
        self.assertEqual(self.plan.changed("marks", None).marks, ("each",) * 8)

    def test_changed_refuses(self):
        for part in oddities() + ["book", "statement", "Orders", ("kept",), "order"]:
            self.assertIs(refused(self, BadPart, lambda: self.plan.changed(part, None)).part, part)
        self.assertIsNone(refused(self, BadOrder, lambda: self.plan.changed("orders", [])).index)
        self.assertEqual(refused(self, BadOrder, lambda: self.plan.changed("orders", [(0, 1), (0, 1)])).index, 1)
        self.assertEqual(refused(self, BadPart, lambda: self.plan.changed("phases", None)).part, "phases")
        self.assertEqual(refused(self, BadMark, lambda: self.plan.changed("marks", ["each"] * 4 + ["fold", "memo"] * 2)).index, 5)
        self.assertEqual(refused(self, BadPart, lambda: self.plan.changed("kept", 1)).part, "kept")

    def test_marked(self):
        for index in range(8):
            for mark in marks_for(BOOK, STATEMENT, index):
                other = self.plan.marked(mark=mark, index=index)
                self.assertEqual(other.marks, MARKS[:index] + (mark,) + MARKS[index + 1:])
                self.assertEqual((other.orders, other.phases, other.kept), (ORDERS, "filters", True))

    def test_marked_refuses(self):
        for index in oddities() + [8, -1, "0", (0,)]:
            if not isinstance(index, int) or isinstance(index, bool) or index != 3:
                self.assertIs(refused(self, BadMark, lambda: self.plan.marked(index, "each")).index, index)
        for index, mark in [(0, "begin"), (0, "fold"), (0, "gone"), (2, "memo"), (5, "gone"), (7, "gone"), (1, "gone")]:
            self.assertEqual(refused(self, BadMark, lambda: self.plan.marked(index, mark)).index, index)
        for mark in oddities() + ["Each", ("each",)]:
            self.assertEqual(refused(self, BadMark, lambda: self.plan.marked(1, mark)).index, 1)

    def test_plain(self):
        bare = Plan(BOOK, STATEMENT)
        self.assertEqual(self.plan.plain(), bare)
        self.assertIs(self.plan.is_plain(), False)
        self.assertIs(bare.is_plain(), True)
        for part, value in [("orders", ORDERS), ("phases", "filters"), ("marks", MARKS), ("kept", True)]:
            self.assertIs(bare.changed(part, value).is_plain(), False)
            self.assertIs(bare.changed(part, value).plain().is_plain(), True)

    def test_label_of(self):
        labels = [self.plan.label_of(index=index) for index in range(8)]
        names = ["always", "session", "changing", "statement", "statement", "changing", "always", "session"]
        self.assertEqual(labels, [Label(name) for name in names])

    def test_folded_calls(self):
        self.assertEqual(self.plan.folded_calls(), [call("se", 0)])
        self.plan.folded_calls().clear()
        self.assertEqual(self.plan.folded_calls(), [call("se", 0)])
        outputs = [(call("st", 2), True), (call("al", 0), False), (call("st", 2), True), (call("al", 1), True)]
        plan = Plan(BOOK, Statement(None, outputs), marks=["fold", "fold", "fold", "each"])
        self.assertEqual(plan.folded_calls(), [call("st", 2), call("al", 0)])
        self.assertEqual(plan.plain().folded_calls(), [])


class TestRefused(unittest.TestCase):
    def test_book_and_statement(self):
        for value in oddities() + [STATEMENT, BOOK.names()]:
            caught = refused(self, BadPart, lambda: Plan(value, value, orders=value, phases=value, marks=value, kept=value))
            self.assertEqual(caught.part, "book")
        for value in oddities() + [BOOK, CONDITION]:
            caught = refused(self, BadPart, lambda: Plan(BOOK, value, orders=0, phases=0, marks=0, kept=0))
            self.assertEqual(caught.part, "statement")

    def test_calls(self):
        statement = Statement(CONDITION, OUTPUTS[:2] + [(("se", ()), True), (call("no"), True)])
        self.assertEqual(refused(self, BadCall, lambda: Plan(BOOK, statement, orders=0, phases=0, marks=0, kept=0)).index, 6)

    def test_orders(self):
        for value in oddities() + [[], ORDERS[:1], ORDERS + ((0,),), {0: (0, 1), 1: (0, 1, 2)}, "ab"]:
            if value is not None:
                caught = refused(self, BadOrder, lambda: Plan(BOOK, STATEMENT, orders=value, phases=0, marks=0, kept=0))
                if not isinstance(value, (list, tuple)) or len(value) != 2:
                    self.assertIsNone(caught.index)
        wrong = [[2, 0, 1], (0, 1), (0, 1, 2, 3), (0, 1, 1), (0, 1, 3), (-1, 0, 1), (0, True, 2), (0, 1, None), ("0", "1", "2")]
        for value in wrong + oddities():
            for orders in [[(0, 1), value], ((0, 1), value)]:
                caught = refused(self, BadOrder, lambda: Plan(BOOK, STATEMENT, orders=orders, phases=0, marks=0, kept=0))
                self.assertEqual(caught.index, 1)
        for value in wrong[2:] + [[0, 1], (0, 2), (0,), (1, 1), (False, True)] + oddities():
            caught = refused(self, BadOrder, lambda: Plan(BOOK, STATEMENT, orders=[value, None], phases=0, marks=0))
            self.assertEqual(caught.index, 0)

    def test_phases(self):
        for value in oddities() + ["Rows", "row", ("rows",), ["rows"]]:
            caught = refused(self, BadPart, lambda: Plan(BOOK, STATEMENT, phases=value, marks=0, kept=0))
            self.assertEqual(caught.part, "phases")

    def test_marks(self):
        for value in oddities() + [[], MARKS[:7], MARKS + ("each",), "eachmemo", {index: "each" for index in range(8)}]:
            if value is not None:
                self.assertIsNone(refused(self, BadMark, lambda: Plan(BOOK, STATEMENT, marks=value, kept=0)).index)
        for value in oddities() + ["Each", "no", ("each",), Label("always")]:
            marks = list(MARKS[:3]) + [value] + [None] * 4
            self.assertEqual(refused(self, BadMark, lambda: Plan(BOOK, STATEMENT, marks=marks, kept=0)).index, 3)

    def test_marks_that_a_call_may_not_have(self):
        for index in range(8):
            let = plain.marks_let(BOOK, STATEMENT, index)
            for mark in plain.MARKS:
                marks = ["each"] * index + [mark] + ["each"] * (7 - index)
                if mark in let:
                    self.assertEqual(Plan(BOOK, STATEMENT, marks=marks).marks, tuple(marks))
                else:
                    self.assertEqual(refused(self, BadMark, lambda: Plan(BOOK, STATEMENT, marks=marks, kept=0)).index, index)

    def test_kept(self):
        for value in [value for value in oddities() if not isinstance(value, bool)] + [0, 1, "True"]:
            self.assertEqual(refused(self, BadPart, lambda: Plan(BOOK, STATEMENT, kept=value)).part, "kept")
        self.assertIs(Plan(BOOK, STATEMENT, kept=True).kept, True)


class TestMarks(unittest.TestCase):
    def test_marks_for(self):
        lets = [
            ["each", "memo"], ["each", "memo", "begin", "fold"], ["each"], ["each", "memo", "begin", "fold"],
            ["each", "memo", "begin", "fold", "gone"], ["each"], ["each", "memo", "gone"], ["each", "memo", "begin", "fold"],
        ]
        self.assertEqual([marks_for(index=index, statement=STATEMENT, book=BOOK) for index in range(8)], lets)
        marks_for(BOOK, STATEMENT, 0).clear()
        self.assertEqual(marks_for(BOOK, STATEMENT, 0), ["each", "memo"])

    def test_marks_for_refuses(self):
        for value in oddities() + [8, -1, "0", None]:
            if not isinstance(value, int) or isinstance(value, bool) or value != 3:
                self.assertIs(refused(self, BadCall, lambda: marks_for(BOOK, STATEMENT, value)).index, value)
        wrong = Statement(CONDITION, [(call("no"), True)])
        self.assertEqual(refused(self, BadCall, lambda: marks_for(BOOK, wrong, 9)).index, 4)

    def test_least_label(self):
        for mark, low, high in [("each", "changing", "changing"), ("memo", "statement", "statement"),
                                ("begin", "statement", "statement"), ("fold", "session", "always"), ("gone", "statement", "statement")]:
            self.assertEqual(least_label(kept=False, mark=mark), Label(low))
            self.assertEqual(least_label(mark, True), Label(high))
        for value in oddities() + ["Each", "rows", ("each",)]:
            self.assertIs(refused(self, BadMark, lambda: least_label(value, value)).index, value)
        for value in [value for value in oddities() if not isinstance(value, bool)] + [0, 1]:
            self.assertEqual(refused(self, BadPart, lambda: least_label("memo", value)).part, "kept")

    def test_is_sound(self):
        for name, label in zip(["al", "se", "st", "ch"], LABELS):
            statement = Statement(("is", call("al"), 0), [(call(name, 0), False)])
            for mark in marks_for(BOOK, statement, 1):
                for kept in [False, True]:
                    plan = Plan(BOOK, statement, marks=["memo", mark], kept=kept)
                    needed = LABELS.index(label) <= (0 if kept else 1) if mark == "fold" else True
                    self.assertIs(is_sound(plan=plan), needed)
        self.assertIs(is_sound(Plan(BOOK, Statement(None))), True)


class TestOrders(unittest.TestCase):
    def test_all_orders_ascending(self):
        self.assertEqual(list(orders_of(statement=Statement(None))), [()])
        self.assertEqual(list(orders_of(Statement(tree()))), [()])
        self.assertEqual(list(orders_of(Statement(tree(1)))), [((0,),)])
        self.assertEqual(list(orders_of(Statement(tree(2, 2)))),
                         [((0, 1), (0, 1)), ((0, 1), (1, 0)), ((1, 0), (0, 1)), ((1, 0), (1, 0))])
        for numbers in [(3,), (3, 2), (2, 3), (4, 3), (6,), (3, 3, 2, 1), (2,) * 7, (5, 2, 2), (5, 3)]:
            orders = list(orders_of(Statement(tree(*numbers))))
            self.assertEqual(orders, list(itertools.product(*[itertools.permutations(range(n)) for n in numbers])))
            self.assertEqual(orders, sorted(orders))
            plan = Plan(BOOK, Statement(tree(*numbers)), orders=orders[-1])
            self.assertEqual(plan.orders, orders[-1])

    def test_too_many(self):
        for numbers in [(7,), (8,), (6, 2), (5, 4), (4, 4, 2)]:
            generated = orders_of(Statement(tree(*numbers)))
            self.assertEqual(refused(self, TooMany, lambda: next(generated)).limit, 1000)

    def test_some_plans(self):
        for seed in range(50):
            chance = random.Random(seed)
            statement = plain.some_statement(chance, plain.BOOK, 6)
            plan = plain.some_plan(chance, plain.BOOK, statement)
            self.assertIn(plan.orders, list(orders_of(statement)))
            lets = [plain.marks_let(plain.BOOK, statement, index) for index in range(len(statement))]
            self.assertEqual([marks_for(plain.BOOK, statement, index) for index in range(len(statement))], lets)
