"""Points [5] and [6]: functions."""

import unittest

from oddities import deep, oddities, shared
from steadycalls.errors import BadLabel, BadPart, BadTerm
from steadycalls.functions import Function
from steadycalls.labels import LABELS, Label

RESULT = ("plus", ("arg", 0), ("cell", "z"))
WRITES = (("z", ("arg", 0)), ("y", 2), ("x", ("tick",)))


def told(function):
    return (function.name, function.arguments, function.result, function.label.name, function.writes, function.cost)


def refused(case, error, call):
    with case.assertRaises(error) as caught:
        call()
    return caught.exception


class TestFunction(unittest.TestCase):
    def test_attributes(self):
        function = Function("f", 2, RESULT, label="session", writes=WRITES, cost=7)
        self.assertEqual(told(function), ("f", 2, RESULT, "session", WRITES, 7))
        self.assertIsInstance(function.label, Label)
        same = Function(cost=7, writes=WRITES, result=RESULT, label="session", arguments=2, name="f")
        self.assertEqual(function, same)

    def test_what_is_left_out(self):
        self.assertEqual(told(Function("g", 0, 1)), ("g", 0, 1, "changing", (), 1))

    def test_named_parts_are_given_by_name_only(self):
        self.assertRaises(TypeError, Function, "g", 0, 1, "always")

    def test_labels_by_name_and_as_labels(self):
        for name in LABELS:
            self.assertEqual(Function("g", 0, 1, label=name).label, Label(name))
            self.assertEqual(Function("g", 0, 1, label=Label(name)).label, Label(name))

    def test_writes_may_be_a_list(self):
        writes = [("z", 1)]
        function = Function("g", 0, 1, writes=writes)
        writes.append(("y", 1))
        self.assertEqual(function.writes, (("z", 1),))

    def test_costs(self):
        for cost in [0, 1, 99]:
            self.assertEqual(Function("g", 0, 1, cost=cost).cost, cost)

    def test_equal(self):
        one = Function("f", 1, RESULT, label="session", writes=[("z", 1)], cost=3)
        self.assertIs(one == Function("f", 1, RESULT, label="session", writes=(("z", 1),), cost=3), True)
        others = [
            Function("g", 1, RESULT, label="session", writes=[("z", 1)], cost=3),
            Function("f", 2, RESULT, label="session", writes=[("z", 1)], cost=3),
            Function("f", 1, ("arg", 0), label="session", writes=[("z", 1)], cost=3),
            Function("f", 1, RESULT, label="always", writes=[("z", 1)], cost=3),
            Function("f", 1, RESULT, label="session", writes=[("z", 2)], cost=3),
            Function("f", 1, RESULT, label="session", writes=[("z", 1)], cost=4),
            "f", None, object(),
        ]
        for other in others:
            self.assertIs(one == other, False)

    def test_parts(self):
        function = Function("f", 1, RESULT, writes=WRITES)
        self.assertEqual(function.parts(), [RESULT, ("arg", 0), 2, ("tick",)])
        function.parts().clear()
        self.assertEqual(len(function.parts()), 4)
        self.assertEqual(Function("f", 0, 2).parts(), [2])


class TestRefused(unittest.TestCase):
    def test_name(self):
        for value in oddities():
            caught = refused(self, BadPart, lambda: Function(value, value, value, label=value, writes=value, cost=value))
            self.assertEqual(caught.part, "name")

    def test_arguments(self):
        for value in oddities() + ["1", [1], -1, 3]:
            caught = refused(self, BadPart, lambda: Function("f", value, value, label=value, writes=value, cost=value))
            self.assertEqual(caught.part, "arguments")

    def test_label(self):
        for value in oddities() + [0, 1, "Always", ("always",), ["always"]]:
            caught = refused(self, BadLabel, lambda: Function("f", 1, value, label=value, writes=value, cost=value))
            self.assertIs(caught.label, value)

    def test_result(self):
        for value in oddities() + [("arg", 1), ["arg", 0], deep(8), shared(5)]:
            caught = refused(self, BadTerm, lambda: Function("f", 1, value, writes=value, cost=value))
            self.assertIs(caught.term, value)

    def test_writes(self):
        wrong = [
            None, 1, "z", {}, {"z": 1}, ("z", 1), ["z"], [["z", 1]], [("z",)], [("z", 1, 1)], [("Z", 1)], [("", 1)],
            [("z", 1), ("y", 1), ("z", 2)], [("z", 1), ("z", 9)], [(None, 1)], [(True, 1)], [()],
            [("a", 1), ("b", 1), ("c", 1), ("d", 1)], [("z", None), "z"], iter([("z", 1)]),
        ]
        for value in wrong + [value for value in oddities() if not isinstance(value, tuple) or len(value) > 0]:
            caught = refused(self, BadPart, lambda: Function("f", 1, 0, writes=value, cost=-1))
            self.assertEqual(caught.part, "writes")

    def test_terms_of_writes(self):
        for value in oddities() + [("arg", 1), ["arg", 0]]:
            writes = [("a", 1), ("b", value), ("c", ("arg", 5))]
            caught = refused(self, BadTerm, lambda: Function("f", 1, 0, writes=writes, cost=-1))
            self.assertIs(caught.term, value)

    def test_cost(self):
        for value in [value for value in oddities() if not isinstance(value, int)] + [True, -1, 100, "1", (1,)]:
            caught = refused(self, BadPart, lambda: Function("f", 1, 0, cost=value))
            self.assertEqual(caught.part, "cost")


class TestOtherFunctions(unittest.TestCase):
    def setUp(self):
        self.function = Function("f", 1, RESULT, label="session", writes=[("z", 1)], cost=3)
        self.ahead = told(self.function)

    def tearDown(self):
        self.assertEqual(told(self.function), self.ahead)

    def test_labelled(self):
        for label in ["always", Label("changing")]:
            other = self.function.labelled(label=label)
            self.assertEqual(told(other)[:3] + told(other)[4:], self.ahead[:3] + self.ahead[4:])
        self.assertEqual(self.function.labelled("always").label.name, "always")
        self.assertEqual(self.function.labelled(Label("changing")).label.name, "changing")
        self.assertIsNot(self.function.labelled("session"), self.function)
        for value in oddities():
            self.assertIs(refused(self, BadLabel, lambda: self.function.labelled(value)).label, value)

    def test_changed(self):
        self.assertEqual(told(self.function.changed("result", 2)), ("f", 1, 2, "session", (("z", 1),), 3))
        self.assertEqual(told(self.function.changed("writes", [])), ("f", 1, RESULT, "session", (), 3))
        self.assertEqual(told(self.function.changed(value=0, part="cost")), ("f", 1, RESULT, "session", (("z", 1),), 0))

    def test_changed_refuses_other_parts(self):
        for part in oddities() + ["name", "arguments", "label", "Result", ("cost",)]:
            self.assertIs(refused(self, BadPart, lambda: self.function.changed(part, None)).part, part)

    def test_changed_refuses_as_the_class(self):
        self.assertEqual(refused(self, BadTerm, lambda: self.function.changed("result", ("arg", 1))).term, ("arg", 1))
        self.assertEqual(refused(self, BadPart, lambda: self.function.changed("writes", None)).part, "writes")
        self.assertEqual(refused(self, BadTerm, lambda: self.function.changed("writes", [("z", 3)])).term, 3)
        self.assertEqual(refused(self, BadPart, lambda: self.function.changed("cost", True)).part, "cost")
