"""Points [7] and [8]: running functions, and calling them by their labels."""

import random
import unittest

import reference
from oddities import oddities
from steadycalls.books import Book
from steadycalls.cells import Cell
from steadycalls.errors import BadArguments, BadPart, BadState, BadTick, UnknownName
from steadycalls.functions import Function
from steadycalls.runs import World, run_alone

CELLS = [Cell("z", "table"), Cell("y", "table"), Cell("s", "setting"), Cell("k", "frozen")]
START = {"z": 0, "y": 0, "s": 0, "k": 0}
SEEDS = 150


def value_of(term, arguments=(), state=None, tick=0):
    book = Book(CELLS, [Function("f", len(arguments), term)])
    return run_alone(book, "f", list(arguments), state or START, tick=tick)[0]


def refused(case, error, call):
    with case.assertRaises(error) as caught:
        call()
    return caught.exception


class TestTerms(unittest.TestCase):
    def test_values_arguments_cells(self):
        for value in range(3):
            self.assertEqual(value_of(value), value)
            self.assertEqual(value_of(("arg", 1), (0, value)), value)
            self.assertEqual(value_of(("cell", "s"), (), {**START, "s": value}), value)

    def test_tick(self):
        for tick in [0, 1, 2, 3, 4, 5, 10 ** 20]:
            self.assertEqual(value_of(("tick",), tick=tick), tick % 3)

    def test_two_terms(self):
        for one in range(3):
            for other in range(3):
                terms = (("arg", 0), ("arg", 1))
                self.assertEqual(value_of(("plus", *terms), (one, other)), (one + other) % 3)
                self.assertEqual(value_of(("less", *terms), (one, other)), int(one < other))
                self.assertEqual(value_of(("same", *terms), (one, other)), int(one == other))

    def test_if(self):
        told = [value_of(("if", ("arg", 0), 1, 2), (value,)) for value in range(3)]
        self.assertEqual(told, [2, 1, 1])


class TestRunAlone(unittest.TestCase):
    def test_example(self):
        book = Book([Cell("z", "table")],
                    [Function("f", 1, ("plus", ("arg", 0), ("cell", "z")), label="statement")])
        world = World(book, {"z": 0})
        world.put("z", 2)
        self.assertEqual([run_alone(book, "f", [2], {"z": 2}), world.call("f", [2])], [(1, {"z": 2}), 2])

    def test_result_ahead_of_writes_and_each_write_at_once(self):
        function = Function("f", 0, ("cell", "z"), writes=[("z", ("plus", ("cell", "z"), 1)), ("y", ("cell", "z"))])
        book = Book(CELLS, [function])
        state = {"k": 1, "s": 2, "y": 0, "z": 1}
        self.assertEqual(run_alone(book, "f", [], state), (1, {"z": 2, "y": 2, "s": 2, "k": 1}))
        self.assertEqual(state, {"k": 1, "s": 2, "y": 0, "z": 1})
        swapped = function.changed("writes", [("y", ("cell", "z")), ("z", ("plus", ("cell", "z"), 1))])
        told = run_alone(name="f", state=state, book=Book(CELLS, [swapped]), arguments=())
        self.assertEqual(told, (1, {"z": 2, "y": 1, "s": 2, "k": 1}))

    def test_calls_write_while_terms_are_worked_out(self):
        up = Function("up", 0, ("cell", "z"), writes=[("z", ("plus", ("cell", "z"), 1))])
        call = ("call", "up", ())
        for term, told in [
            (("plus", ("cell", "z"), call), (0, 1)),
            (("plus", call, ("cell", "z")), (1, 1)),
            (("less", call, call), (1, 2)),
            (("same", ("cell", "z"), ("if", call, 0, ("cell", "z"))), (0, 1)),
            (("if", 0, call, 2), (2, 0)),
            (("if", call, call, 2), (2, 1)),
            (("if", ("plus", call, call), call, ("plus", call, call)), (2, 0)),
        ]:
            value, behind = run_alone(Book(CELLS, [up, Function("f", 0, term)]), "f", [], START)
            self.assertEqual((value, behind["z"]), told, term)

    def test_terms_of_a_call_are_worked_out_ahead_of_it_from_left_to_right(self):
        up = Function("up", 0, ("cell", "z"), writes=[("z", ("plus", ("cell", "z"), 1))])
        pick = Function("pick", 2, ("if", ("same", ("arg", 0), 0), ("plus", ("arg", 1), ("cell", "z")), 0))
        top = Function("top", 0, ("call", "pick", (("call", "up", ()), ("call", "up", ()))))
        self.assertEqual(run_alone(Book(CELLS, [up, pick, top]), "top", [], START), (0, {**START, "z": 2}))

    def test_a_call_in_a_write_writes_ahead_of_the_value(self):
        up = Function("up", 0, ("cell", "z"), writes=[("z", 2), ("y", 2)])
        top = Function("top", 0, 0, writes=[("z", ("plus", ("call", "up", ()), 1))])
        self.assertEqual(run_alone(Book(CELLS, [up, top]), "top", [], START), (0, {**START, "z": 1, "y": 2}))

    def test_labels_do_not_count_and_the_tick_is_the_same(self):
        low = Function("low", 0, ("tick",), label="always", writes=[("z", ("tick",))])
        top = Function("top", 0, ("call", "low", ()), label="session")
        self.assertEqual(run_alone(Book(CELLS, [low, top]), "top", [], START, tick=5), (2, {**START, "z": 2}))
        self.assertEqual(run_alone(Book(CELLS, [low, top]), "top", [], START), (0, START))

    def test_what_is_told_is_new(self):
        book = Book(CELLS, [Function("f", 0, 1)])
        told = run_alone(book, "f", [], START)
        self.assertEqual(told[1], START)
        self.assertIsNot(told[1], START)

    def test_many_calls_in_calls(self):
        functions = [Function("fa", 0, ("cell", "z"), writes=[("z", ("plus", ("cell", "z"), 1))])]
        for name in ["fb", "fc", "fd", "fe", "ff", "fg", "fh"]:
            call = ("call", functions[-1].name, ())
            two = ("plus", call, call)
            four = ("plus", two, two)
            functions.append(Function(name, 0, ("plus", four, four)))
        value, behind = run_alone(Book(CELLS, functions), "fh", [], START)
        self.assertEqual((value, behind["z"]), (1, 8 ** 7 % 3))

    def test_as_the_document_says(self):
        for seed in range(SEEDS):
            chance = random.Random(seed)
            book = reference.some_book(seed)
            for name in book.names():
                arguments = [chance.randrange(3) for _ in range(book[name].arguments)]
                state = reference.some_state(chance, book)
                tick = chance.randrange(7)
                behind = dict(state)
                value = reference.run(book, name, arguments, behind, tick)
                self.assertEqual(run_alone(book, name, arguments, state, tick=tick), (value, behind))


class TestRunAloneRefused(unittest.TestCase):
    def setUp(self):
        self.book = Book(CELLS[:1], [Function("f", 1, ("arg", 0)), Function("g", 0, 1)])

    def test_unknown_name(self):
        for value in oddities() + ["z", "h"]:
            call = lambda: run_alone(self.book, value, value, value, tick=value)
            self.assertIs(refused(self, UnknownName, call).name, value)

    def test_arguments(self):
        for value in oddities() + [[], [0, 0], [3], [True], ["0"], {0: 0}, "0", 0, [None], ()]:
            call = lambda: run_alone(self.book, "f", value, None, tick=-1)
            self.assertIs(refused(self, BadArguments, call).arguments, value)
        self.assertEqual(refused(self, BadArguments, lambda: run_alone(self.book, "g", [0], {}, tick=0)).arguments, [0])

    def test_state(self):
        for value in oddities() + [{}, {"z": 0, "y": 0}]:
            if not isinstance(value, dict) or len(value) != 1:
                self.assertIsNone(refused(self, BadState, lambda: run_alone(self.book, "f", [0], value, tick=-1)).name)
        for state in [{"z": 3}, {"z": True}, {"y": 0}]:
            self.assertEqual(refused(self, BadState, lambda: run_alone(self.book, "f", [0], state, tick=-1)).name, "z")

    def test_tick(self):
        for value in [None, True, False, -1, "0", (), [0], object()]:
            call = lambda: run_alone(self.book, "f", [0], {"z": 0}, tick=value)
            self.assertIs(refused(self, BadTick, call).value, value)
        self.assertRaises(TypeError, run_alone, self.book, "f", [0], {"z": 0}, 1)


COUNT = Function("count", 0, ("cell", "z"), writes=[("z", ("plus", ("cell", "z"), 1))])
LOOK = Function("look", 0, ("cell", "z"), label="statement")
TICK = Function("ticks", 0, ("tick",))
LIAR = Function("liar", 0, ("call", "count", ()), label="always", writes=[("y", ("tick",))])
BOTH = Function("both", 1, ("plus", ("call", "count", ()), ("call", "look", ())), writes=[("y", ("cell", "z"))])
ASKS = Function("asks", 1, ("plus", ("arg", 0), ("cell", "z")), label="session")
PASSES = Function("passes", 0, ("if", ("call", "count", ()), 0, ("call", "asks", (("cell", "z"),))))
INNER = Function("inner", 0, ("plus", ("call", "ticks", ()), ("call", "liar", ())))
FUNCTIONS = [COUNT, LOOK, TICK, LIAR, BOTH, ASKS, PASSES, INNER]


class TestWorld(unittest.TestCase):
    def setUp(self):
        self.book = Book(CELLS, FUNCTIONS)
        self.world = World(self.book, START)

    def seen(self, world=None):
        world = self.world if world is None else world
        return (world.state(), world.view(), world.tick(), world.calls(), len(world))

    def test_at_the_begin(self):
        self.assertEqual(self.seen(), (START, START, 0, [], 0))
        self.assertEqual(self.seen(World(state=START, book=self.book)), self.seen())

    def test_changing_functions_run_on_the_present_state(self):
        self.assertEqual([self.world.call("count", []) for _ in range(4)], [0, 1, 2, 0])
        calls = [("count", (), 0), ("count", (), 1), ("count", (), 2), ("count", (), 0)]
        self.assertEqual(self.seen(), ({**START, "z": 1}, START, 4, calls, 4))

    def test_ticks_count_calls_of_changing_functions_alone(self):
        told = [self.world.call(name, []) for name in ["ticks", "look", "ticks", "liar", "ticks"]]
        self.assertEqual(told, [0, 0, 1, 0, 2])
        self.world.call(name="both", arguments=(1,))
        self.assertEqual([self.world.call("ticks", []), self.world.tick()], [1, 5])
        self.assertEqual(self.world.calls()[3], ("both", (1,), 0))

    def test_steady_functions_go_by_the_view(self):
        self.world.call("count", [])
        self.assertEqual(self.world.call("look", []), 0)
        self.world.put("z", 2)
        self.assertEqual(self.world.call("look", []), 0)
        self.assertEqual(self.world.call("asks", [1]), 1)
        self.world.begin()
        self.assertEqual(self.world.call("look", []), 2)
        self.assertEqual(self.world.call("asks", [1]), 0)

    def test_what_steady_functions_write_is_forgotten(self):
        self.world.call("ticks", [])
        ahead = self.seen()
        self.assertEqual([self.world.call("liar", []) for _ in range(3)], [0, 0, 0])
        self.assertEqual(self.seen(), ahead)

    def test_calls_within_a_changing_function(self):
        self.world.put("z", 1)
        # count goes on on the present state, look goes by the view.
        self.assertEqual(self.world.call("both", [0]), 1)
        self.assertEqual(self.world.state(), {**START, "z": 2, "y": 2})

    def test_arguments_of_a_steady_call_within_are_worked_out_on_the_present_state(self):
        self.assertEqual(self.world.call("passes", []), 1)

    def test_ticks_within(self):
        self.world.call("ticks", [])
        self.world.call("ticks", [])
        # ticks has the tick of the call; liar, and count within it, run by the view.
        self.assertEqual(self.world.call("inner", []), 2)
        self.assertEqual(self.world.state(), START)
        self.assertEqual(self.world.tick(), 3)

    def test_begin(self):
        self.world.call("count", [])
        self.world.put("y", 2)
        self.assertIsNone(self.world.begin())
        behind = {**START, "z": 1, "y": 2}
        self.assertEqual(self.seen(), (behind, behind, 0, [], 0))

    def test_put(self):
        self.world.call("count", [])
        self.assertIsNone(self.world.put(value=2, name="y"))
        self.assertEqual(self.seen(), ({**START, "z": 1, "y": 2}, START, 1, [("count", (), 0)], 1))

    def test_assign(self):
        self.world.call("count", [])
        self.assertIsNone(self.world.assign(value=2, name="s"))
        behind = {**START, "z": 1, "s": 2}
        self.assertEqual(self.seen(), (behind, behind, 0, [], 0))

    def test_copy(self):
        self.world.call("count", [])
        self.world.put("y", 1)
        ahead = self.seen()
        twin = self.world.copy()
        self.assertEqual(self.seen(twin), ahead)
        twin.call("count", [])
        twin.put("y", 2)
        self.assertEqual(self.seen(), ahead)
        self.world.begin()
        self.assertEqual(self.seen(twin), ({**START, "z": 2, "y": 2}, START, 2, [("count", (), 0), ("count", (), 1)], 2))
        self.assertIsInstance(twin, World)

    def test_dicts_and_lists_are_new(self):
        state = dict(START)
        world = World(self.book, state)
        state["z"] = 2
        world.call("count", [])
        for told in [world.state(), world.view(), world.calls()]:
            told.clear()
        self.assertEqual(self.seen(world), ({**START, "z": 1}, START, 1, [("count", (), 0)], 1))

    def test_as_the_document_says(self):
        for seed in range(SEEDS):
            chance = random.Random(seed)
            book = reference.some_book(seed)
            state = reference.some_state(chance, book)
            view = dict(state)
            world = World(book, state)
            made = []
            for _ in range(12):
                name = chance.choice(book.names())
                arguments = tuple(chance.randrange(3) for _ in range(book[name].arguments))
                value = reference.call(book, name, arguments, view, state, len(made))
                if book[name].label.name == "changing":
                    made.append((name, arguments, value))
                self.assertEqual(world.call(name, list(arguments)), value)
                for cell in book.all_cells():
                    if cell.kind == "table" and chance.random() < 0.1:
                        state[cell.name] = chance.randrange(3)
                        world.put(cell.name, state[cell.name])
                if chance.random() < 0.1:
                    world.begin()
                    view, made = dict(state), []
                self.assertEqual(self.seen(world), (state, view, len(made), made, len(made)))


class TestWorldRefused(unittest.TestCase):
    def setUp(self):
        self.book = Book(CELLS, FUNCTIONS)
        self.world = World(self.book, START)
        self.world.call("count", [])
        self.world.put("y", 1)

    def tearDown(self):
        self.assertEqual(self.world.state(), {**START, "z": 1, "y": 1})
        self.assertEqual(self.world.view(), START)
        self.assertEqual(self.world.calls(), [("count", (), 0)])

    def test_state(self):
        for value in oddities():
            self.assertRaises(BadState, World, self.book, value)
        self.assertIsNone(refused(self, BadState, lambda: World(self.book, {"z": 0})).name)
        self.assertEqual(refused(self, BadState, lambda: World(self.book, {**START, "s": 3, "k": 3})).name, "s")

    def test_call(self):
        for value in oddities() + ["z", "other"]:
            self.assertIs(refused(self, UnknownName, lambda: self.world.call(value, None)).name, value)
        for value in oddities() + [[], [0, 0], [3], [True], "0", {0: 0}]:
            for name in ["both", "asks"]:
                self.assertIs(refused(self, BadArguments, lambda: self.world.call(name, value)).arguments, value)

    def test_put(self):
        for value in oddities() + ["count", "other"]:
            self.assertIs(refused(self, UnknownName, lambda: self.world.put(value, None)).name, value)
            self.assertEqual(refused(self, BadPart, lambda: self.world.put("z", value)).part, "value")
        for name in ["s", "k"]:
            self.assertEqual(refused(self, BadPart, lambda: self.world.put(name, None)).part, "name")
            self.assertEqual(refused(self, BadPart, lambda: self.world.put(name, 1)).part, "name")

    def test_assign(self):
        for value in oddities() + ["count", "other"]:
            self.assertIs(refused(self, UnknownName, lambda: self.world.assign(value, None)).name, value)
            self.assertEqual(refused(self, BadPart, lambda: self.world.assign("s", value)).part, "value")
        for name in ["z", "y", "k"]:
            self.assertEqual(refused(self, BadPart, lambda: self.world.assign(name, None)).part, "name")
            self.assertEqual(refused(self, BadPart, lambda: self.world.assign(name, 1)).part, "name")
