"""Point [10]: statements."""

import unittest

from oddities import Equal, Touchy, oddities
from refusals import refused
from steadycalls.books import Book
from steadycalls.errors import BadCall, BadOutput, BadTree, TooMany
from steadycalls.functions import Function
from steadycalls.statements import Statement, is_call, is_constant, is_table, is_tree, passes, values_of

F = ("f", ("x",))
G = ("g", ("y", 1))
H = ("h", ())
IS = ("is", F, 1)
BOOK = Book([], [Function("f", 1, 0), Function("g", 2, 0), Function("h", 0, 0)])

CALLS = [F, G, H, ("f", (0,)), ("abcdefgh", ("y", "x")), ("g", ("x", "x")), ("x", (2, 2))]
NO_CALLS = [
    ("f",), ("f", ("x",), 1), ["f", ("x",)], ("f", ["x"]), ("f", "x"), ("f", ("z",)), ("f", ("xy",)), ("f", ("",)),
    ("f", (3,)), ("f", (-1,)), ("f", (True,)), ("f", (False,)), ("f", (None,)), ("f", ("0",)), ("f", ("x", "y", "x")),
    ("F", ()), ("", ()), (1, ()), ((), ()), ("f", None), ("f", {}), (("arg", 0), ()), ("f", (("x",),)), ("f", (b"x",)),
    ("f", (Equal(),)), ("f", (Touchy(),)), (Equal(), ()), (Touchy(), ()), ("f", Equal()), ("f", Touchy()),
]


def nested(steps, tree=IS):
    for _ in range(steps):
        tree = ("not", tree)
    return tree


def wide(steps, many=8):
    """A tree each level of which has the next one many times."""
    tree = IS
    for _ in range(steps):
        tree = ("and", (tree,) * many)
    return tree


TREES = [
    IS, ("is", H, 0), ("is", G, 2), ("not", IS), ("and", (IS,)), ("or", (IS, IS)), ("and", (IS,) * 8),
    ("or", (("not", ("and", (IS, ("is", G, 0)))), IS)), nested(7), wide(7, 1), wide(7, 2), wide(3),
]
NO_TREES = [
    ("is", F), ("is", F, 3), ("is", F, True), ("is", F, None), ("is", F, "1"), ("is", F, 1, 1), ["is", F, 1], F,
    ("is", list(F), 1), ("not",), ("not", IS, IS), ("not", (IS,)), ("not", None), ["not", IS], ("and",), ("and", ()),
    ("and", IS), ("and", [IS]), ("and", (IS,) * 9), ("and", (IS,), (IS,)), ("and", (IS, None)), ("or", ()), ("or", IS),
    ("or", [IS, IS]), ("or", {}), ("or", "is"), ("if", (IS, IS)), ("And", (IS,)), ("and", (["is", F, 1],)),
    (Equal(), IS), (Touchy(), IS), ("not", Equal()), ("not", Touchy()), ("and", Touchy()), ("and", (IS, Touchy())),
    (("and",), (IS,)), (None, IS), (True, IS), nested(8), nested(100), wide(8), wide(100), wide(100, 2), wide(8, 1),
    ("and", (IS, nested(7))), ("or", (IS, wide(7, 1))),
]
TABLES = [[], (), [(0, 0)], ((2, 1),), [(0, 1), (2, 2)] * 3]
NO_TABLES = [
    [(0, 0)] * 7, [(0,)], [(0, 0, 0)], [[0, 0]], [(0, 3)], [(True, 0)], [(0, None)], [("0", 0)], (0, 0), [0], {(0, 0): 1},
    {}, "", "xy", [(0, 0), None], [Equal()], [Touchy()], [(0, Touchy())], [(Equal(), 0)], iter([]), range(0),
]


class TestForms(unittest.TestCase):
    def test_calls(self):
        for value in CALLS:
            self.assertIs(is_call(value=value), True, value)
        for value in NO_CALLS + oddities() + TREES:
            self.assertIs(is_call(value), False)

    def test_trees(self):
        for value in TREES:
            self.assertIs(is_tree(value=value), True)
        for value in NO_TREES + oddities() + CALLS + NO_CALLS:
            self.assertIs(is_tree(value), False)
        for call in NO_CALLS + oddities():
            self.assertIs(is_tree(("is", call, 1)), False)
            self.assertIs(is_tree(("or", (IS, ("not", ("is", call, 1))))), False)

    def test_tables(self):
        for value in TABLES:
            self.assertIs(is_table(value=value), True)
        for value in NO_TABLES + [value for value in oddities() if not isinstance(value, tuple) or value]:
            self.assertIs(is_table(value), False)

    def test_constant(self):
        for call, told in [(H, True), (("f", (1,)), True), (("g", (0, 2)), True), (F, False), (G, False),
                           (("g", (0, "x")), False), (("x", ()), True)]:
            self.assertIs(is_constant(call=call), told)

    def test_values_of(self):
        row = (1, 2)
        for call, told in [(H, ()), (F, (1,)), (("f", ("y",)), (2,)), (G, (2, 1)), (("g", ("y", "x")), (2, 1)),
                           (("g", (0, "x")), (0, 1)), (("g", ("y", "y")), (2, 2)), (("f", (0,)), (0,))]:
            self.assertEqual(values_of(row=row, call=call), told)


class TestStatement(unittest.TestCase):
    def setUp(self):
        self.tree = ("or", (("is", F, 1), ("not", ("and", (("is", G, 0), ("or", (("is", H, 2),)), ("is", F, 1))))))
        self.outputs = [(G, True), (H, False)]
        self.statement = Statement(self.tree, self.outputs)

    def test_what_is_in_it(self):
        self.assertEqual(self.statement.condition, self.tree)
        self.assertEqual(self.statement.outputs, ((G, True), (H, False)))
        self.assertEqual(self.statement.atoms(), [F, G, H, F])
        self.assertEqual(self.statement.all_calls(), [F, G, H, F, G, H])
        self.assertEqual(len(self.statement), 6)
        self.assertEqual(self.statement.parts(), [2, 3, 1])
        self.assertEqual(self.statement.columns(), ["x", "y"])

    def test_parts_as_they_are_written(self):
        tree = ("and", (("or", (IS, ("and", (IS,)))), ("not", ("and", (IS, IS, IS))), ("or", (IS, IS))))
        self.assertEqual(Statement(tree).parts(), [3, 2, 1, 3, 2])
        self.assertEqual(Statement(IS).parts(), [])
        self.assertEqual(Statement(nested(7)).parts(), [])
        self.assertEqual(Statement(wide(7, 1)).parts(), [1] * 7)

    def test_without_filter_or_outputs(self):
        bare = Statement(None)
        told = (bare.condition, bare.outputs, bare.all_calls(), bare.atoms(), len(bare), bare.parts(), bare.columns())
        self.assertEqual(told, (None, (), [], [], 0, [], []))
        shown = Statement(None, [(F, True)])
        self.assertEqual((shown.all_calls(), shown.atoms(), shown.parts()), ([F], [], []))

    def test_columns(self):
        for calls, told in [([H], []), ([F], ["x"]), ([H, G], ["y"]), ([G, F], ["x", "y"]), ([("g", ("y", "x"))], ["x", "y"]),
                            ([("x", (0,))], [])]:
            self.assertEqual(Statement(None, [(call, True) for call in calls]).columns(), told)
            self.assertEqual(Statement(("and", tuple(("is", call, 0) for call in calls))).columns(), told)

    def test_lists_are_new_and_stay_apart(self):
        ahead = Statement(self.tree, tuple(self.outputs))
        self.outputs.clear()
        for told in [self.statement.all_calls(), self.statement.atoms(), self.statement.parts(), self.statement.columns()]:
            told.clear()
        self.assertEqual(self.statement, ahead)
        self.assertEqual(self.statement.outputs, ((G, True), (H, False)))
        self.assertEqual((len(self.statement.all_calls()), len(self.statement.atoms())), (6, 4))
        self.assertEqual((self.statement.parts(), self.statement.columns()), ([2, 3, 1], ["x", "y"]))

    def test_equal(self):
        same = Statement(outputs=((G, True), (H, False)), condition=self.tree)
        self.assertIs(self.statement == same, True)
        for other in [Statement(None, self.outputs), Statement(self.tree), Statement(self.tree, [(G, True), (H, True)]),
                      Statement(self.tree, self.outputs[::-1]), self.tree, None, object()]:
            self.assertIs(self.statement == other, False)

    def test_with_output(self):
        other = self.statement.with_output(shown=False, call=F)
        self.assertEqual(other, Statement(self.tree, self.outputs + [(F, False)]))
        self.assertEqual(len(self.statement), 6)
        for call, shown in [(None, True), (("f", ["x"]), True), (F, 1), (F, None), (None, None)]:
            caught = refused(self, BadOutput, lambda: self.statement.with_output(call, shown))
            self.assertEqual(caught.index, 2)
        full = other.with_output(H, True)
        self.assertEqual(len(full), 8)
        self.assertEqual(refused(self, TooMany, lambda: full.with_output(H, True)).limit, 8)
        self.assertEqual(refused(self, BadOutput, lambda: full.with_output(H, 1)).index, 4)


class TestFit(unittest.TestCase):
    def test_fits(self):
        self.assertIsNone(Statement(("or", (IS, ("is", G, 0))), [(H, True)]).fit(book=BOOK))
        self.assertIsNone(Statement(None).fit(BOOK))

    def test_first_call_that_does_not(self):
        for wrong in [("e", ()), ("f", ()), ("f", (1, 2)), ("g", ("x",)), ("h", (0,))]:
            self.assertEqual(refused(self, BadCall, lambda: Statement(("is", wrong, 0)).fit(BOOK)).index, 0)
            tree = ("and", (IS, ("not", ("is", wrong, 0)), ("is", wrong, 0)))
            self.assertEqual(refused(self, BadCall, lambda: Statement(tree, [(wrong, True)]).fit(BOOK)).index, 1)
            statement = Statement(("or", (IS, IS)), [(H, True), (wrong, False)])
            self.assertEqual(refused(self, BadCall, lambda: statement.fit(BOOK)).index, 3)


class TestRefused(unittest.TestCase):
    def test_trees(self):
        for value in NO_TREES + oddities() + CALLS:
            if value is not None:
                self.assertIs(refused(self, BadTree, lambda: Statement(value, value)).tree, value)

    def test_outputs(self):
        for value in oddities() + [{}, (F, True), F, {F: True}, "f"]:
            if not isinstance(value, (list, tuple)):
                self.assertIsNone(refused(self, BadOutput, lambda: Statement(None, value)).index)
        wrong = [[F, True], (F,), (F, True, True), F, (True, F), (F, 1), (F, 0), (F, None), (F, "True"), (F, Touchy())]
        for value in wrong + [(call, True) for call in NO_CALLS] + oddities():
            outputs = [(F, True), value, (H, False), value]
            self.assertEqual(refused(self, BadOutput, lambda: Statement(wide(3), outputs)).index, 1)

    def test_too_many_calls(self):
        for atoms in range(9):
            tree = ("and", (IS,) * atoms) if atoms else None
            self.assertEqual(len(Statement(tree, [(F, True)] * (8 - atoms))), 8)
            self.assertEqual(refused(self, TooMany, lambda: Statement(tree, [(F, True)] * (9 - atoms))).limit, 8)
        for tree in [wide(2), wide(3), wide(7, 2)]:
            self.assertEqual(refused(self, TooMany, lambda: Statement(tree)).limit, 8)
        self.assertEqual(refused(self, BadOutput, lambda: Statement(wide(2), [None])).index, 0)


class TestPasses(unittest.TestCase):
    def asked(self, tree, truths):
        """The truth of a tree, and the numbers of the `is` that were asked, told by their values."""
        order = []

        def told(call, value):
            self.assertEqual(call, F)
            order.append(value)
            return truths[value]
        return (passes(tree=tree, told=told), order)

    def test_truth(self):
        a, b, c = [("is", F, value) for value in range(3)]
        rows = [
            (a, lambda x, y, z: x), (("not", a), lambda x, y, z: not x), (("and", (a, b, c)), lambda x, y, z: x and y and z),
            (("or", (a, b, c)), lambda x, y, z: x or y or z), (("and", (a,)), lambda x, y, z: x), (("or", (c,)), lambda x, y, z: z),
            (("or", (("and", (a, ("not", b))), ("not", ("or", (a, c))))), lambda x, y, z: x and not y or not (x or z)),
        ]
        for tree, truth in rows:
            for number in range(8):
                truths = [bool(number & bit) for bit in (1, 2, 4)]
                self.assertIs(self.asked(tree, truths)[0], truth(*truths))

    def test_no_more_than_needed(self):
        a, b, c = [("is", F, value) for value in range(3)]
        yes, no = [True] * 3, [False] * 3
        for tree, truths, order in [
            (("and", (a, b, c)), yes, [0, 1, 2]), (("and", (a, b, c)), no, [0]), (("or", (a, b, c)), yes, [0]),
            (("or", (a, b, c)), no, [0, 1, 2]), (("and", (c, ("or", (b, a)))), yes, [2, 1]),
            (("or", (("and", (b, a)), ("not", c))), no, [1, 2]), (("and", (a, b, c)), [True, False, True], [0, 1]),
            (("or", (c, b, a)), [False, True, False], [2, 1]),
        ]:
            self.assertEqual(self.asked(tree, truths)[1], order)

    def test_each_one_is_asked_again(self):
        a, b = ("is", F, 0), ("is", F, 1)
        self.assertEqual(self.asked(("and", (a, a, b, a)), [True] * 3), (True, [0, 0, 1, 0]))
        self.assertEqual(self.asked(("or", (a, ("not", ("not", a)), a)), [False] * 3), (False, [0, 0, 0]))

    def test_told_may_be_an_object_that_is_called(self):
        class Told:
            def __call__(self, call, value):
                return call == F and value == 2
        self.assertIs(passes(("is", F, 2), Told()), True)
        self.assertIs(passes(("and", (("is", F, 2), ("is", G, 2))), Told()), False)

    def test_no_filter(self):
        self.assertIs(passes(None, None), True)

    def test_deepest(self):
        self.assertIs(passes(nested(7), lambda call, value: True), False)
        self.assertIs(passes(wide(7, 1), lambda call, value: True), True)
