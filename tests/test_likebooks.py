"""Points [7], [8] and [21]: books alike, and calls at moments."""

import itertools
import random
import unittest

import plain
import reference
from oddities import oddities
from refusals import refused
from steadycalls.books import Book
from steadycalls.cells import Cell
from steadycalls.errors import BadArguments, BadMoment, BadPart, TooMany, UnknownName
from steadycalls.functions import Function
from steadycalls.likebooks import are_alike_books, call_at, is_unlike_call, unlike_call
from steadycalls.plans import Plan
from steadycalls.plays import play
from steadycalls.runs import World
from steadycalls.shown import moved

Z, S = ("cell", "z"), ("cell", "s")
TICK = ("tick",)
CELLS = [Cell("z", "table"), Cell("y", "table"), Cell("s", "setting")]
BOOK = Book(CELLS, [
    Function("look", 1, ("plus", ("arg", 0), Z), label="statement", writes=[("y", 1)]),
    Function("up", 0, ("plus", Z, TICK), writes=[("z", ("plus", Z, 1))]),
    Function("top", 1, ("plus", ("call", "up", ()), ("call", "look", (Z,)))),
])
VIEW = {"z": 1, "y": 0, "s": 2}
PRESENT = {"z": 2, "y": 2, "s": 2}


def moments(book, touched=None):
    """All moments of a book, with cells that are not touched 0."""
    cells = book.all_cells()
    for values in itertools.product(*[range(3) if touched is None or cell.name in touched else [0] for cell in cells]):
        view = {cell.name: value for cell, value in zip(cells, values)}
        free = [range(3) if cell.kind == "table" and (touched is None or cell.name in touched) else [view[cell.name]] for cell in cells]
        for others in itertools.product(*free):
            for tick in range(3):
                yield view, {cell.name: value for cell, value in zip(cells, others)}, tick


def plain_call(book, name, arguments, moment):
    view, state, tick = moment
    behind = dict(state)
    value = reference.call(book, name, arguments, view, behind, tick)
    return value, behind


def plain_unlike(one, other):
    """Whether some call at some moment does not do the same."""
    return any(plain_call(one, name, arguments, moment) != plain_call(other, name, arguments, moment)
               for name in one.names() for arguments in itertools.product(range(3), repeat=one[name].arguments)
               for moment in moments(one, one.touched(name) + other.touched(name)))


def how_many(one, other):
    """The number of calls at moments."""
    total = 0
    for name in one.names():
        touched = [cell for cell in one.all_cells() if cell.name in one.touched(name) + other.touched(name)]
        total += 3 ** one[name].arguments * 3 * 3 ** (len(touched) + sum(cell.kind == "table" for cell in touched))
    return total


class TestCallAt(unittest.TestCase):
    def test_steady(self):
        self.assertEqual(call_at(BOOK, "look", [2], (VIEW, PRESENT, 1)), (0, PRESENT))
        self.assertEqual(call_at(moment=(VIEW, PRESENT, 2), arguments=(0,), name="look", book=BOOK), (1, PRESENT))

    def test_changing(self):
        self.assertEqual(call_at(BOOK, "up", (), (VIEW, PRESENT, 1)), (0, {**PRESENT, "z": 0}))
        self.assertEqual(call_at(BOOK, "up", (), (VIEW, PRESENT, 0)), (2, {**PRESENT, "z": 0}))
        # up gives 2 + 2, and look goes by the view: 0 + 1.
        self.assertEqual(call_at(BOOK, "top", [1], (VIEW, PRESENT, 2)), (2, {**PRESENT, "z": 0}))

    def test_new_each_time(self):
        told = call_at(BOOK, "look", [2], (VIEW, PRESENT, 1))[1]
        self.assertIsNot(told, PRESENT)
        self.assertEqual(list(told), ["z", "y", "s"])

    def test_books_by_chance(self):
        for seed in range(100):
            chance = random.Random(seed)
            book = reference.some_book(seed)
            for name in book.names():
                view, state = reference.some_state(chance, book), reference.some_state(chance, book)
                state.update({cell.name: view[cell.name] for cell in book.all_cells() if cell.kind != "table"})
                moment = (view, state, chance.randrange(3))
                arguments = tuple(chance.randrange(3) for _ in range(book[name].arguments))
                self.assertEqual(call_at(book, name, arguments, moment), plain_call(book, name, arguments, moment))

    def test_a_world_comes_to_a_moment(self):
        for name, many in [("up", 0), ("top", 1)]:
            world = World(BOOK, VIEW)
            for _ in range(2):
                world.call("up", [])
            world.put("z", 2)
            world.put("y", 2)
            self.assertEqual((world.call(name, [1] * many), world.state()), call_at(BOOK, name, [1] * many, (VIEW, PRESENT, 2)))


class TestUnlikeCall(unittest.TestCase):
    def check(self, one, other):
        """What is told is such a call, in the form of the document."""
        told = unlike_call(one, other)
        self.assertIs(are_alike_books(one, other), told is None)
        if told is not None:
            name, arguments, (view, state, tick) = told
            self.assertEqual([type(part) for part in (told, arguments, told[2], view, state, tick)], [tuple, tuple, tuple, dict, dict, int])
            self.assertIsNot(view, state)
            self.assertNotEqual(call_at(one, name, arguments, told[2]), call_at(other, name, arguments, told[2]))
            self.assertIs(is_unlike_call(one, other, told), True)
            touched = one.touched(name) + other.touched(name)
            self.assertEqual([cell.name for cell in one.all_cells() if cell.name not in touched and (view[cell.name] or state[cell.name])], [])
        return told

    def test_equal_books(self):
        self.assertIsNone(self.check(BOOK, BOOK))
        turned = Book(CELLS, [BOOK["up"], BOOK["look"], BOOK["top"]])
        self.assertIsNone(self.check(BOOK, turned))
        self.assertIsNone(unlike_call(other=turned, one=BOOK))

    def test_bodies_that_do_the_same(self):
        # What a steady function writes is forgotten, and its tick is 0.
        look = Function("look", 1, ("plus", ("plus", Z, TICK), ("arg", 0)), label="always", cost=9)
        self.assertIsNone(self.check(BOOK, BOOK.with_function(look)))
        up = BOOK["up"].changed("writes", [("z", ("plus", ("plus", Z, 2), 2))])
        self.assertIsNone(self.check(BOOK, BOOK.with_function(up)))

    def test_values_and_writes(self):
        for function in [BOOK["look"].changed("result", ("plus", ("arg", 0), ("cell", "y"))), BOOK["up"].changed("result", Z),
                         BOOK["up"].changed("writes", []), BOOK["up"].changed("writes", [("z", ("plus", Z, 1)), ("y", ("cell", "y"))]),
                         BOOK["top"].changed("result", ("plus", ("call", "look", (Z,)), ("call", "up", ())))]:
            other = BOOK.with_function(function)
            self.assertEqual(self.check(BOOK, other) is not None, plain_unlike(BOOK, other))
            self.assertEqual(self.check(other, BOOK) is not None, plain_unlike(BOOK, other))

    def test_just_one_moment(self):
        late = ("if", ("same", TICK, 2), ("if", ("same", Z, 1), ("same", ("cell", "y"), 2), 0), 0)
        one = Book(CELLS, [Function("f", 0, 0)])
        told = self.check(one, one.with_function(Function("f", 0, late)))
        self.assertEqual((told[0], told[1], told[2][1:]), ("f", (), ({"z": 1, "y": 2, "s": 0}, 2)))

    def test_view_and_state(self):
        cells = [Cell("z", "table")]
        look = Function("look", 0, Z, label="statement")
        one = Book(cells, [look, Function("f", 0, ("call", "look", ()))])
        view, state, _ = self.check(one, one.with_function(Function("f", 0, Z)))[2]
        self.assertNotEqual(view, state)

    def test_books_by_chance(self):
        alike = unlike = 0
        for seed in range(150):
            chance = random.Random(seed)
            one = reference.some_book(seed)
            function = one[chance.choice(one.names())]
            ahead = [(name, one[name].arguments) for name in one.names()[:one.names().index(function.name)]]
            term = reference.some_term(chance, one.all_cells(), ahead, function.arguments, 3)
            part = chance.choice(["result", "writes", "label"])
            if part == "label":
                label = function.label.name if function.label.name == "changing" else chance.choice(["always", "statement"])
                other = one.with_function(function.labelled(label))
            elif part == "writes":
                other = one.with_function(function.changed("writes", function.writes[1:]))
            else:
                other = one.with_function(function.changed("result", term))
            if how_many(one, other) > 20000:
                self.assertEqual(refused(self, TooMany, lambda: unlike_call(one, other)).limit, 20000)
                continue
            told = self.check(one, other)
            self.assertEqual(told is not None, plain_unlike(one, other))
            alike += told is None
            unlike += told is not None
        self.assertGreater(alike, 40)
        self.assertGreater(unlike, 30)

    def test_alike_books_are_seen_alike(self):
        """All statements have the same answers and state behind in alike books."""
        others = [plain.FUNCTIONS[0].changed("result", ("plus", ("cell", "k"), ("arg", 0))),
                  plain.FUNCTIONS[4].changed("result", ("plus", ("cell", "z"), ("less", 2, ("cell", "u")))),
                  plain.FUNCTIONS[5].changed("writes", [("u", ("plus", ("arg", 0), ("cell", "u")))])]
        other = plain.BOOK
        for function in others:
            other = other.with_function(function)
        self.assertIsNone(self.check(plain.BOOK, other))
        for seed in range(60):
            chance = random.Random(seed)
            plan = plain.some_plan(chance, plain.BOOK, plain.some_statement(chance, plain.BOOK, 8))
            state, table = reference.some_state(chance, plain.BOOK), plain.some_table(chance)
            self.assertEqual(play(plan, state, table), play(moved(plan, other), state, table))
            self.assertIsInstance(plan, Plan)


class TestIsUnlikeCall(unittest.TestCase):
    def setUp(self):
        self.other = BOOK.with_function(BOOK["up"].changed("result", Z))

    def test_told(self):
        self.assertIs(is_unlike_call(BOOK, self.other, ("up", (), (VIEW, PRESENT, 1))), True)
        self.assertIs(is_unlike_call(value=("up", (), (VIEW, PRESENT, 0)), other=self.other, one=BOOK), False)
        self.assertIs(is_unlike_call(BOOK, self.other, ("top", (2,), (PRESENT, VIEW, 2))), True)
        self.assertIs(is_unlike_call(BOOK, self.other, ("look", (2,), (VIEW, PRESENT, 2))), False)

    def test_any_value(self):
        good = (VIEW, PRESENT, 1)
        wrong = oddities() + [("up", [], good), ["up", (), good], ("up", (), list(good)), ("up", ()), ("up", (), good, 1), ("up", (0,), good),
                              ("top", (), good), ("top", (3,), good), ("top", (True,), good), ("top", [1], good), ("z", (), good),
                              ("nothing", (), good), (None, (), good)]
        wrong += [("up", (), value) for value in oddities() + [(VIEW, {**PRESENT, "s": 1}, 1), (VIEW, PRESENT, 3), (VIEW, PRESENT, True),
                                                              (VIEW, PRESENT), (VIEW, {"z": 2}, 1), ({**VIEW, "k": 0}, PRESENT, 1)]]
        wrong += [(value, (), good) for value in oddities()] + [("up", value, good) for value in oddities() if value is not None
                                                                and not (isinstance(value, tuple) and len(value) == 0)]
        for value in wrong:
            self.assertIs(is_unlike_call(BOOK, self.other, value), False)


class TestGreat(unittest.TestCase):
    """Books of eight functions and six cells; where there are too many calls at moments."""

    def setUp(self):
        self.cells = [Cell("c" + letter, kind) for letter, kind in zip("abcdef", ["table"] * 4 + ["setting", "frozen"])]
        letters = "abcdefgh"
        self.functions = [Function("f" + letter, 2, ("plus", ("arg", 0), ("cell", "c" + "abcdefab"[at])),
                                   label=["changing", "statement"][at % 2]) for at, letter in enumerate(letters)]
        self.book = Book(self.cells, self.functions)

    def test_eight_functions(self):
        turned = Book(self.cells, [one.changed("result", ("plus", one.result[2], ("arg", 0))) for one in self.functions[::-1]])
        self.assertIsNone(unlike_call(self.book, turned))
        late = turned.with_function(Function("fh", 2, ("plus", ("cell", "cb"), ("same", 2, ("arg", 1))), label="always"))
        name, arguments, (view, _, _) = unlike_call(self.book, late)
        self.assertEqual((name, len(arguments), [cell for cell in view if view[cell] and cell != "cb"]), ("fh", 2, []))

    def test_too_many(self):
        term = 0
        for cell in "abc":
            term = ("plus", term, ("cell", "c" + cell))
        # 9 * 3 * 27 * 27, which is 19683; then one more function.
        one = Book(self.cells, [Function("f", 2, ("plus", ("arg", 0), term))])
        other = Book(self.cells, [Function("f", 2, ("plus", term, ("arg", 0)))])
        self.assertEqual(how_many(one, other), 19683)
        self.assertIsNone(unlike_call(one, other))
        two = [Book(self.cells, [book["f"], Function("g", 2, ("cell", "ca"))]) for book in (one, other)]
        self.assertEqual(how_many(*two), 19683 + 243)
        self.assertIsNone(unlike_call(*two))
        three = [Book(self.cells, [book["f"], Function("g", 2, ("plus", ("cell", "ca"), ("cell", "ce")))]) for book in (one, other)]
        self.assertGreater(how_many(*three), 20000)
        for call in [unlike_call, are_alike_books]:
            self.assertEqual(refused(self, TooMany, lambda: call(*three)).limit, 20000)
        # It does not bind what tells of one call.
        moment = ({cell.name: 0 for cell in self.cells},) * 2 + (0,)
        self.assertIs(is_unlike_call(*three, ("g", (0, 0), moment)), False)

    def test_cells_that_neither_touches(self):
        one = Book(self.cells, [Function("f", 0, ("cell", "cf"))])
        name, arguments, (view, state, _) = unlike_call(one, Book(self.cells, [Function("f", 0, ("cell", "ce"))]))
        self.assertEqual([[cell for cell in told if told[cell] and cell not in ("ce", "cf")] for told in (view, state)], [[], []])


class TestRefused(unittest.TestCase):
    def test_books(self):
        for value in oddities() + [CELLS, BOOK["up"]]:
            for call in [lambda: unlike_call(value, None), lambda: are_alike_books(value, None), lambda: is_unlike_call(value, None, None)]:
                self.assertEqual(refused(self, BadPart, call).part, "one")
            for call in [lambda: unlike_call(BOOK, value), lambda: are_alike_books(BOOK, value), lambda: is_unlike_call(BOOK, value, None)]:
                self.assertEqual(refused(self, BadPart, call).part, "other")

    def test_books_that_cannot_be_compared(self):
        functions = [BOOK[name] for name in BOOK.names()]
        others = [
            Book(CELLS[::-1], functions), Book(CELLS + [Cell("k", "frozen")], functions), Book([CELLS[0], CELLS[1], Cell("s", "frozen")], functions),
            Book(CELLS, functions[:2]), Book(CELLS, functions + [Function("more", 0, 0)]),
            Book(CELLS, functions[:2] + [Function("tip", 1, functions[2].result)]),
            Book(CELLS, functions[:2] + [Function("top", 2, functions[2].result)]),
            BOOK.labelled({"look": "changing"}), BOOK.labelled({"up": "statement"}),
        ]
        for other in others:
            for call in [lambda: unlike_call(BOOK, other), lambda: are_alike_books(BOOK, other), lambda: is_unlike_call(BOOK, other, None)]:
                self.assertEqual(refused(self, BadPart, call).part, "other")
        self.assertIsNone(unlike_call(BOOK, BOOK.labelled({"look": "session"})))

    def test_call_at(self):
        for value in oddities() + ["z", "x"]:
            self.assertIs(refused(self, UnknownName, lambda: call_at(BOOK, value, None, None)).name, value)
        for value in oddities() + [[], [3], [True], [0, 0], "0", {0: 1}, 0]:
            self.assertIs(refused(self, BadArguments, lambda: call_at(BOOK, "look", value, None)).arguments, value)
        wrong = [(VIEW, PRESENT), [VIEW, PRESENT, 0], (VIEW, {**PRESENT, "s": 0}, 0), (VIEW, PRESENT, 3), (VIEW, PRESENT, -1), (VIEW, PRESENT, True),
                 (VIEW, PRESENT, None), (VIEW, {"z": 0, "y": 0}, 0), ({**VIEW, "more": 0}, PRESENT, 0), (VIEW, {**PRESENT, "y": 3}, 0), (VIEW, PRESENT, 0, 0)]
        for value in oddities() + wrong + [(one, PRESENT, 0) for one in oddities()] + [(VIEW, PRESENT, one) for one in oddities()]:
            self.assertIs(refused(self, BadMoment, lambda: call_at(BOOK, "look", [0], value)).moment, value)
