"""Point [5]: terms."""

import unittest

from oddities import Equal, Touchy, deep, oddities, shared
from steadycalls.terms import calls_in, cells_in, has_tick, is_term, term_depth, term_size

TERMS = [
    0, 1, 2, ("arg", 0), ("arg", 1), ("cell", "z"), ("cell", "abcdefgh"), ("tick",),
    ("plus", 0, 2), ("less", ("arg", 1), ("tick",)), ("same", ("cell", "z"), 1), ("if", 0, 1, 2),
    ("call", "f", ()), ("call", "f", (1,)), ("call", "f", (("arg", 0), ("call", "g", ()))),
    ("if", ("less", 1, ("cell", "y")), ("plus", ("tick",), 0), ("call", "h", (("cell", "x"), 2))),
    ("cell", "tick"), ("call", "tick", ()), ("call", "plus", (1, 2)), ("cell", "call"),
]

NO_TERMS = [
    "0", "tick", "arg", [], [0], ["tick"], ["plus", 0, 1], {"tick": 1}, 3, -1, True, False, None,
    ("arg",), ("arg", 2), ("arg", -1), ("arg", True), ("arg", False), ("arg", None), ("arg", "0"),
    ("arg", (0,)), ("arg", 0, 0), ("cell",), ("cell", 0), ("cell", ""), ("cell", "Z"), ("cell", "a1"),
    ("cell", "abcdefghi"), ("cell", ("cell", "z")), ("cell", "z", "z"), ("cell", None),
    ("tick", 0), ("tick", ()), ("tick", "tick"), ("plus", 0), ("plus", 0, 0, 0), ("plus", (0, 0)),
    ("less",), ("less", 1), ("same", 1, 3), ("same", True, 1), ("if", 0, 1), ("if", 0, 1, 2, 0),
    ("call",), ("call", "f"), ("call", "f", []), ("call", "f", [1]), ("call", "f", 1), ("call", "f", None),
    ("call", "f", (1, 2, 0)), ("call", "F", ()), ("call", 0, ()), ("call", "f", (), ()), ("call", "f", ("x",)),
    ("call", (), ()), ("call", "f", {}), ("call", "f", "ab"), ("call", "", ()), ("minus", 1, 1), ("not", 1),
    ("Plus", 1, 1), ((), 1, 1), (("plus",), 1, 1), (0,), (0, 1), (), (None, 0), ("value", 1),
    (Equal(), 0, 0), (Equal(),), (Touchy(),), ("arg", Equal()), ("cell", Equal()), ("arg", Touchy()),
    ("plus", Equal(), 0), ("plus", 0, Touchy()), ("call", Touchy(), ()), ("call", "f", Equal()),
]


def full(levels):
    """A term of two branches each, with so many levels and 2 ** levels - 1 parts."""
    return 0 if levels == 1 else ("plus", full(levels - 1), full(levels - 1))


class TestIsTerm(unittest.TestCase):
    def test_terms(self):
        for term in TERMS:
            self.assertIs(is_term(term, 2), True, term)

    def test_other_values(self):
        for value in NO_TERMS + oddities():
            self.assertIs(is_term(value, 2), False)

    def test_a_part_put_otherwise_anywhere(self):
        for value in NO_TERMS + oddities():
            for term in [
                ("plus", value, 0), ("plus", 0, value), ("less", value, 1), ("same", 1, value),
                ("if", value, 0, 0), ("if", 0, value, 0), ("if", 0, 0, value),
                ("call", "f", (value,)), ("call", "f", (0, value)),
                ("plus", 1, ("if", 0, ("call", "f", (("less", 0, value),)), ("tick",))),
            ]:
                self.assertIs(is_term(term, 2), False)

    def test_indexes_below_a_number(self):
        for arguments in range(4):
            for index in range(5):
                term = ("plus", 1, ("arg", index))
                self.assertIs(is_term(term, arguments), index < arguments)
                self.assertIs(is_term(arguments=arguments, value=("arg", index)), index < arguments)

    def test_eight_deep(self):
        for steps in range(12):
            self.assertIs(is_term(deep(steps), 0), steps < 8)
        term = ("cell", "z")
        for levels in range(2, 70):
            term = ("call", "f", (term,))
            self.assertIs(is_term(term, 0), levels <= 8)

    def test_thirty_parts(self):
        self.assertEqual(term_size(full(4)), 15)
        twenty_nine = ("plus", full(4), ("plus", full(3), ("plus", ("tick",), ("plus", 0, 0))))
        self.assertEqual(term_size(twenty_nine), 29)
        self.assertIs(is_term(twenty_nine, 0), True)
        for last, many in [((1,), 30), ((1, 2), 31), ((("call", "g", (1,)),), 31)]:
            term = ("plus", full(4), ("plus", full(3), ("plus", ("tick",), ("plus", 0, ("call", "f", last)))))
            self.assertEqual(term_size(term), many)
            self.assertIs(is_term(term, 0), many <= 30)

    def test_index_is_no_part(self):
        one = ("arg", 1)
        two = ("plus", one, one)
        four = ("plus", two, two)
        eight = ("plus", four, four)
        thirteen = ("plus", four, ("plus", one, two))
        self.assertEqual([term_size(term) for term in [one, two, four, eight, thirteen]], [1, 3, 7, 15, 13])
        thirty = ("call", "f", (eight, ("call", "g", (thirteen,))))
        self.assertEqual(term_size(thirty), 30)
        self.assertIs(is_term(thirty, 2), True)
        self.assertIs(is_term(("call", "f", (eight, ("call", "g", (thirteen, one)))), 2), False)

    def test_far_too_deep_or_too_long(self):
        for steps in [8, 60, 95]:
            self.assertIs(is_term(deep(steps), 2), False)
            self.assertIs(is_term(shared(steps), 2), False)
            self.assertIs(is_term(("call", "f", (shared(steps), deep(steps))), 2), False)


class TestParts(unittest.TestCase):
    def test_size(self):
        sizes = [term_size(term) for term in TERMS]
        self.assertEqual(sizes, [1] * 8 + [3, 3, 3, 4, 1, 2, 3, 10, 1, 1, 3, 1])

    def test_depth(self):
        depths = [term_depth(term) for term in TERMS]
        self.assertEqual(depths, [1] * 8 + [2, 2, 2, 2, 1, 2, 2, 3, 1, 1, 2, 1])
        self.assertEqual([term_depth(term=deep(steps)) for steps in range(60)], list(range(1, 61)))
        self.assertEqual(term_depth(("if", 0, 1, ("plus", 1, ("same", 1, 1)))), 4)

    def test_cells_and_calls(self):
        term = ("if", ("cell", "b"), ("call", "h", (("cell", "a"), ("call", "g", ()))),
                ("plus", ("cell", "b"), ("call", "h", (("cell", "tick"), ("tick",)))))
        self.assertEqual(cells_in(term), ["a", "b", "tick"])
        self.assertEqual(calls_in(term=term), ["g", "h"])
        self.assertEqual(cells_in(("call", "z", ())), [])
        self.assertEqual(calls_in(("cell", "z")), [])
        self.assertEqual(cells_in(2), [])
        self.assertEqual(calls_in(2), [])
        told = cells_in(term)
        told.clear()
        self.assertEqual(cells_in(term), ["a", "b", "tick"])

    def test_has_tick(self):
        for term in [("tick",), ("plus", 0, ("tick",)), ("call", "f", (0, ("tick",))),
                     ("if", 0, 0, ("less", ("tick",), 0)), ("if", ("tick",), 0, 0)]:
            self.assertIs(has_tick(term), True)
        for term in [0, 2, ("arg", 0), ("cell", "tick"), ("call", "tick", ()), ("plus", ("cell", "tick"), 1),
                     ("call", "tick", (("cell", "tick"),))]:
            self.assertIs(has_tick(term=term), False)
