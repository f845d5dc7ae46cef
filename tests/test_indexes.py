"""Points [9] and [17]: indexes."""

import itertools
import random
import unittest

import reference
from oddities import oddities
from refusals import refused
from steadycalls.books import Book
from steadycalls.cells import Cell
from steadycalls.errors import BadArguments, BadPart, BadState, UnknownName
from steadycalls.functions import Function
from steadycalls.indexes import Index, index_bar
from steadycalls.truest import bars, is_bar

Z, S, K = ("cell", "z"), ("cell", "s"), ("cell", "k")
CELLS = [Cell("z", "table"), Cell("s", "setting"), Cell("k", "frozen")]
BOOK = Book(CELLS, [
    Function("one", 1, ("plus", ("arg", 0), Z), label="always"),
    Function("two", 2, ("if", ("arg", 0), ("plus", ("arg", 1), K), S)),
    Function("none", 0, ("plus", Z, ("tick",)), writes=[("z", 2)]),
    Function("al", 1, ("plus", ("arg", 0), K), label="changing"),
])
START = {"z": 1, "s": 2, "k": 0}


def entries_of(book, name, state):
    return {arguments: reference.run(book, name, arguments, dict(state), 0)
            for arguments in itertools.product(range(3), repeat=book[name].arguments)}


class TestIndex(unittest.TestCase):
    def test_entries(self):
        index = Index(BOOK, "one", START)
        self.assertEqual((index.book, index.name, len(index)), (BOOK, "one", 3))
        self.assertEqual(index.entries(), {(0,): 1, (1,): 2, (2,): 0})
        self.assertEqual(list(index.entries()), [(0,), (1,), (2,)])
        self.assertEqual([index[(value,)] for value in range(3)], [1, 2, 0])
        index.entries().clear()
        self.assertEqual(len(index.entries()), 3)
        self.assertEqual(list(Index(BOOK, "two", START).entries()), list(itertools.product(range(3), repeat=2)))
        self.assertEqual([len(Index(BOOK, name, START)) for name in ["two", "none"]], [9, 1])

    def test_at_tick_0_and_as_it_stands(self):
        self.assertEqual(Index(BOOK, "none", START).entries(), {(): 1})
        called = Book(CELLS, [Function("up", 0, Z, writes=[("z", ("plus", Z, 1))]), Function("tock", 0, ("tick",), label="always"),
                              Function("sum", 0, ("plus", ("call", "up", ()), ("plus", Z, ("call", "tock", ()))), label="always")])
        self.assertEqual(Index(called, "sum", START)[()], 0)

    def test_books_by_chance(self):
        for seed in range(80):
            chance = random.Random(seed)
            book = reference.some_book(seed)
            for name in book.names():
                state, later = reference.some_state(chance, book), reference.some_state(chance, book)
                index = Index(book, name, state)
                then, now = entries_of(book, name, state), entries_of(book, name, later)
                self.assertEqual(list(index.entries().items()), list(then.items()))
                self.assertEqual(index.wrong(later), [given for given in then if then[given] != now[given]])
                for value in range(3):
                    self.assertEqual(index.find(value), [given for given in then if then[given] == value])
                given = chance.choice(list(then))
                self.assertIsNone(index.rewrite(given, later))
                self.assertEqual(index.entries(), {**then, given: now[given]})
                self.assertEqual(index.wrong(later), [one for one in then if one != given and then[one] != now[one]])

    def test_find(self):
        index = Index(BOOK, "two", START)
        self.assertEqual(index.find(value=2), [(0, 0), (0, 1), (0, 2), (1, 2), (2, 2)])
        self.assertEqual([index.find(1), index.find(0)], [[(1, 1), (2, 1)], [(1, 0), (2, 0)]])
        self.assertEqual(Index(BOOK, "none", START).find(0), [])

    def test_wrong(self):
        index = Index(BOOK, "two", START)
        self.assertEqual(index.wrong(START), [])
        self.assertEqual(index.wrong(state={**START, "z": 0}), [])
        self.assertEqual(index.wrong({**START, "s": 0}), [(0, 0), (0, 1), (0, 2)])
        # Frozen cells may be asked for with other values, too.
        self.assertEqual(index.wrong({**START, "k": 1}), [(1, 0), (1, 1), (1, 2), (2, 0), (2, 1), (2, 2)])

    def test_rewrite_changes_one_entry_alone(self):
        index = Index(BOOK, "one", START)
        index.rewrite(state={**START, "z": 2}, arguments=(1,))
        self.assertEqual(index.entries(), {(0,): 1, (1,): 0, (2,): 0})
        self.assertEqual(index.wrong({**START, "z": 2}), [(0,), (2,)])
        self.assertEqual(index.wrong(START), [(1,)])
        index.rewrite((1,), START)
        self.assertEqual(index, Index(BOOK, "one", START))

    def test_equal(self):
        one = Index(BOOK, "one", START)
        self.assertEqual(one, Index(book=BOOK, name="one", state={**START, "s": 0, "k": 1}))
        self.assertNotEqual(one, Index(BOOK, "one", {**START, "z": 0}))
        self.assertNotEqual(one, Index(BOOK.labelled({"two": "always"}), "one", START))
        self.assertNotEqual(one, Index(BOOK, "al", {**START, "k": 1}))
        self.assertEqual(one.entries(), Index(BOOK, "al", {**START, "k": 1}).entries())
        for value in [None, "one", {(0,): 1, (1,): 2, (2,): 0}, BOOK]:
            self.assertIs(one == value, False)

    def test_states_stay_apart(self):
        state = dict(START)
        index = Index(BOOK, "one", state)
        state["z"] = 0
        self.assertEqual(index[(0,)], 1)
        self.assertEqual(index.wrong(state), [(0,), (1,), (2,)])

    def test_no_iteration(self):
        with self.assertRaises(TypeError):
            iter(Index(BOOK, "one", START))


class TestIndexBar(unittest.TestCase):
    def test_as_bars(self):
        self.assertIsNone(index_bar(BOOK, "al"))
        for name in ["one", "two", "none"]:
            told = index_bar(name=name, book=BOOK)
            self.assertEqual(told, bars(BOOK, name, "always"))
            self.assertIs(is_bar(BOOK, name, "always", told), True)
        self.assertEqual([index_bar(BOOK, name)[0] for name in ["one", "two", "none"]], ["table", "setting", "writes"])

    def test_none_just_if_the_truest_label_is_always(self):
        lasting = 0
        for seed in range(60):
            book = reference.some_book(seed)
            for name in book.names():
                is_always = reference.truest_name(book, name) == "always"
                lasting += is_always
                self.assertEqual(index_bar(book, name) is None, is_always)
                if is_always:
                    # No entry is ever wrong then, on states that are equal in the frozen cells.
                    index = Index(book, name, {cell.name: 0 for cell in book.all_cells()})
                    moving = [cell.name for cell in book.all_cells() if cell.kind != "frozen"]
                    for values in itertools.product(range(3), repeat=len(moving)):
                        state = {cell.name: 0 for cell in book.all_cells()}
                        self.assertEqual(index.wrong({**state, **dict(zip(moving, values))}), [])
        self.assertGreater(lasting, 20)

    def test_great_books(self):
        cells = [Cell("c" + letter, "setting") for letter in "abcdef"]
        deep = ("plus", ("cell", "ca"), ("plus", ("cell", "cb"), ("plus", ("cell", "cc"), ("arg", 0))))
        functions = [Function("f" + letter, 2, ("if", ("arg", 1), deep, ("cell", "cf"))) for letter in "abcdefgh"]
        book = Book(cells, functions)
        state = {cell.name: 2 for cell in cells}
        self.assertEqual(Index(book, "fh", state).find(1), [(1, 1), (1, 2)])
        self.assertEqual(index_bar(book, "fh")[0], "setting")


class TestRefused(unittest.TestCase):
    def test_names(self):
        for value in oddities() + ["z", "x"]:
            self.assertIs(refused(self, UnknownName, lambda: Index(BOOK, value, None)).name, value)
            self.assertIs(refused(self, UnknownName, lambda: index_bar(BOOK, value)).name, value)

    def test_states(self):
        index = Index(BOOK, "one", START)
        for call in [lambda state: Index(BOOK, "one", state), index.wrong, lambda state: index.rewrite((0,), state)]:
            for value in oddities() + [{}, {**START, "more": 0}]:
                self.assertIsNone(refused(self, BadState, lambda: call(value)).name)
            self.assertEqual(refused(self, BadState, lambda: call({**START, "s": 3, "k": None})).name, "s")
        self.assertEqual(index, Index(BOOK, "one", START))

    def test_arguments(self):
        index = Index(BOOK, "one", START)
        for value in oddities() + [[0], [], (0, 0), (3,), (True,), ("0",), 0, "0", {0: 0}]:
            self.assertIs(refused(self, BadArguments, lambda: index[value]).arguments, value)
            self.assertIs(refused(self, BadArguments, lambda: index.rewrite(value, None)).arguments, value)
        for value in [[], (0,), None]:
            self.assertIs(refused(self, BadArguments, lambda: Index(BOOK, "none", START)[value]).arguments, value)

    def test_values(self):
        for value in oddities() + [True, 3, "1", (1,), [1]]:
            self.assertEqual(refused(self, BadPart, lambda: Index(BOOK, "one", START).find(value)).part, "value")
