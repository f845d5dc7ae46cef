"""Point [9]: cases, and what values depend on."""

import unittest

import reference
from oddities import oddities
from steadycalls.books import Book
from steadycalls.cells import Cell, states_of
from steadycalls.depends import cases, depends, parting, value_at, writes_at, writing
from steadycalls.errors import BadPart, UnknownName
from steadycalls.functions import Function

CELLS = [Cell("z", "table"), Cell("s", "setting"), Cell("k", "frozen"), Cell("y", "table")]
BLANK = {"z": 0, "s": 0, "k": 0, "y": 0}
KINDS = ("setting", "table", "tick")
SEEDS = 120

LOW = Function("low", 1, ("plus", ("arg", 0), ("cell", "y")), writes=[("z", ("cell", "z"))])


def one(result, arguments=0, writes=()):
    """A book with a function f behind LOW."""
    return Book(CELLS, [LOW, Function("f", arguments, result, writes=writes)])


def refused(case, error, call):
    with case.assertRaises(error) as caught:
        call()
    return caught.exception


class TestCases(unittest.TestCase):
    def test_cells_that_are_touched_and_no_tick(self):
        told = list(cases(one(("plus", ("cell", "s"), ("cell", "z"))), "f"))
        expected = [({**BLANK, "z": z, "s": s}, 0) for z in range(3) for s in range(3)]
        self.assertEqual(told, expected)
        self.assertEqual([list(state) for state, _ in told], [list(BLANK)] * 9)

    def test_states_then_ticks(self):
        told = list(cases(name="f", book=one(("if", 0, ("tick",), ("cell", "k")))))
        self.assertEqual(told, [({**BLANK, "k": k}, tick) for k in range(3) for tick in range(3)])

    def test_what_is_reached_counts(self):
        told = list(cases(one(("call", "low", (("tick",),))), "f"))
        self.assertEqual(told, [({**BLANK, "z": z, "y": y}, t) for z in range(3) for y in range(3) for t in range(3)])
        self.assertEqual(list(cases(one(1, writes=[("z", ("tick",))]), "f")),
                         [({**BLANK, "z": z}, tick) for z in range(3) for tick in range(3)])
        below = Book(CELLS, [Function("low", 0, 0, writes=[("y", ("tick",))]), Function("f", 0, ("call", "low", ()))])
        self.assertEqual(len(list(cases(below, "f"))), 9)

    def test_nothing_touched(self):
        self.assertEqual(list(cases(one(1), "f")), [(BLANK, 0)])
        self.assertEqual(list(cases(Book([], [Function("f", 2, ("tick",))]), "f")), [({}, 0), ({}, 1), ({}, 2)])

    def test_all_cells(self):
        term = ("plus", ("plus", ("cell", "z"), ("cell", "s")), ("plus", ("cell", "k"), ("cell", "y")))
        self.assertEqual(list(cases(one(term), "f")), [(state, 0) for state in states_of(CELLS)])

    def test_each_state_is_new(self):
        book = one(("plus", ("tick",), ("cell", "z")))
        told = []
        for state, tick in cases(book, "f"):
            told.append((dict(state), tick))
            state.clear()
        self.assertEqual(told, list(cases(book, "f")))
        self.assertEqual(len(told), 9)


class TestAt(unittest.TestCase):
    def test_value_at(self):
        book = one(("plus", ("plus", ("arg", 0), ("tick",)), ("cell", "z")), 2, [("y", ("cell", "z"))])
        for case in cases(book, "f"):
            for arguments in [(0, 1), (1, 0), [2, 2]]:
                expected = (arguments[0] + case[1] + case[0]["z"]) % 3
                self.assertEqual(value_at(book, "f", arguments, case), expected)
        self.assertEqual(value_at(case=({**BLANK, "z": 2}, 2), arguments=(0, 0), name="f", book=book), 1)

    def test_writes_at(self):
        book = one(0, 1, [("y", ("plus", ("arg", 0), ("tick",)))])
        for y in range(3):
            for tick in range(3):
                for given in range(3):
                    told = writes_at(book, "f", (given,), ({**BLANK, "y": y}, tick))
                    self.assertIs(told, (given + tick) % 3 != y)
        self.assertIs(writes_at(case=(BLANK, 1), arguments=[0], name="f", book=book), True)

    def test_states_stay(self):
        book = one(0, 0, [("y", 2)])
        state = dict(BLANK)
        self.assertEqual([value_at(book, "f", (), (state, 0)), writes_at(book, "f", (), (state, 0))], [0, True])
        self.assertEqual(state, BLANK)


class TestDepends(unittest.TestCase):
    def test_kinds(self):
        for result, told in [
            (1, []), (("arg", 0), []), (("cell", "k"), []), (("cell", "s"), ["setting"]), (("cell", "z"), ["table"]),
            (("tick",), ["tick"]), (("plus", ("tick",), ("cell", "s")), ["setting", "tick"]),
            (("if", ("tick",), ("cell", "z"), ("cell", "s")), ["setting", "table", "tick"]),
            (("call", "low", (("cell", "s"),)), ["setting", "table"]),
        ]:
            self.assertEqual(depends(one(result, 1), "f"), told)

    def test_what_does_not_matter(self):
        z = ("cell", "z")
        for result in [
            ("if", 0, z, 1), ("less", z, 0), ("plus", z, ("plus", z, z)), ("same", z, z), ("if", z, 1, 1),
            ("less", 2, ("tick",)), ("if", 0, ("tick",), ("arg", 0)), ("if", ("less", ("cell", "s"), 0), z, ("cell", "k")),
        ]:
            self.assertEqual(depends(one(result, 1), "f"), [])
            for kind in KINDS:
                self.assertIsNone(parting(one(result, 1), "f", kind))

    def test_for_some_arguments_or_cells_alone(self):
        book = one(("if", ("same", ("arg", 0), 2), ("if", ("same", ("cell", "k"), 2), ("cell", "s"), 0), 0), 1)
        self.assertEqual(depends(name="f", book=book), ["setting"])
        arguments, first, second = parting(book, "f", "setting")
        self.assertEqual((arguments, first[0]["k"], second[0]["k"]), ((2,), 2, 2))

    def test_values_behind_own_writes(self):
        # What a call writes is read behind it.
        set_z = Function("setz", 0, 0, writes=[("z", ("tick",))])
        book = Book(CELLS, [set_z, Function("f", 0, ("plus", ("call", "setz", ()), ("cell", "z")))])
        self.assertEqual(depends(book, "f"), ["tick"])

    def test_lists_are_new(self):
        book = one(("tick",))
        depends(book, "f").clear()
        self.assertEqual(depends(book, "f"), ["tick"])

    def test_as_the_document_says(self):
        for seed in range(SEEDS):
            book = reference.some_book(seed)
            for name in book.names():
                found = reference.outcomes(book, name)
                expected = [kind for kind in KINDS if reference.depends_on(book, found, kind)]
                self.assertEqual(depends(book, name), expected)
                for kind in KINDS:
                    self.check_parting(book, name, kind, kind in expected)

    def check_parting(self, book, name, kind, is_there):
        told = parting(book=book, name=name, kind=kind)
        self.assertIs(told is not None, is_there)
        if told is None:
            return
        arguments, first, second = told
        all_cases = list(cases(book, name))
        self.assertIn(first, all_cases)
        self.assertIn(second, all_cases)
        self.assertIsInstance(arguments, tuple)
        self.assertNotEqual(value_at(book, name, arguments, first), value_at(book, name, arguments, second))
        if kind != "tick":
            self.assertEqual(first[1], second[1])
        for cell in book.all_cells():
            if cell.kind != kind:
                self.assertEqual(first[0][cell.name], second[0][cell.name])


class TestWriting(unittest.TestCase):
    def test_first_by_arguments_then_cases(self):
        book = one(0, 2, [("z", ("if", ("arg", 1), ("if", ("tick",), 2, ("cell", "z")), ("cell", "z")))])
        self.assertEqual(writing(book, "f"), ((0, 1), (BLANK, 1)))
        book = one(0, 1, [("y", ("if", ("less", ("cell", "y"), 2), ("cell", "y"), ("arg", 0)))])
        self.assertEqual(writing(name="f", book=book), ((0,), ({**BLANK, "y": 2}, 0)))
        book = one(0, 0, [("z", 0)])
        self.assertEqual(writing(book, "f"), ((), ({**BLANK, "z": 1}, 0)))

    def test_writes_that_change_nothing(self):
        z = ("cell", "z")
        for writes in [[], [("z", z)], [("z", ("plus", z, 0))], [("z", ("if", 0, 2, z)), ("y", ("cell", "y"))]]:
            self.assertIsNone(writing(one(("call", "low", (1,)), 0, writes), "f"))

    def test_writes_of_what_is_called(self):
        back = Function("back", 0, 0, writes=[("z", 0)])
        up = Function("up", 0, 0, writes=[("z", ("plus", ("cell", "z"), 1))])
        for result, told in [
            (("call", "up", ()), ((), (BLANK, 0))),
            (("plus", ("call", "up", ()), ("call", "back", ())), ((), ({**BLANK, "z": 1}, 0))),
            (("plus", ("call", "up", ()), ("plus", ("call", "up", ()), ("call", "up", ()))), None),
            (("if", 0, ("call", "up", ()), 1), None),
        ]:
            book = Book(CELLS, [back, up, Function("f", 0, result)])
            self.assertEqual(writing(book, "f"), told)

    def test_as_the_document_says(self):
        for seed in range(SEEDS):
            book = reference.some_book(seed)
            for name in book.names():
                told = writing(book, name)
                first = self.first(book, name)
                self.assertEqual(told, first)

    def first(self, book, name):
        touched = book.touched(name)
        ticks = {tick for _, tick in cases(book, name)}
        for arguments, state, tick, _, behind in reference.outcomes(book, name):
            still = all(state[cell.name] == 0 for cell in book.all_cells() if cell.name not in touched)
            if still and tick in ticks and state != behind:
                return (arguments, (state, tick))
        return None


class TestRefused(unittest.TestCase):
    def test_unknown_names(self):
        book = one(1)
        for value in oddities() + ["z", "other"]:
            for call in [lambda: depends(book, value), lambda: writing(book, value), lambda: parting(book, value, None)]:
                self.assertIs(refused(self, UnknownName, call).name, value)

    def test_kinds(self):
        for value in oddities() + ["frozen", "writes", "Table", ("table",)]:
            self.assertEqual(refused(self, BadPart, lambda: parting(one(1), "f", value)).part, "kind")

    def test_cases_raise_when_they_begin(self):
        generator = cases(one(1), "other")
        self.assertRaises(UnknownName, next, generator)
