"""Point [21]: islands of books, parts of them, and joined books."""

import itertools
import random
import unittest

import plain
import reference
from oddities import oddities
from refusals import refused
from steadycalls.books import Book
from steadycalls.cells import Cell
from steadycalls.errors import BadPart, TooMany, UnknownName
from steadycalls.functions import Function
from steadycalls.islands import islands, joined, one_island, part_of
from steadycalls.plays import play
from steadycalls.shown import moved

Z, Y, S = ("cell", "z"), ("cell", "y"), ("cell", "s")
CELLS = [Cell("z", "table"), Cell("y", "table"), Cell("s", "setting"), Cell("idle", "frozen")]
BOOK = Book(CELLS, [
    Function("a", 0, Z), Function("b", 1, ("arg", 0)), Function("c", 0, S), Function("d", 0, 0, writes=[("z", 1)]),
    Function("e", 0, ("call", "b", (2,))), Function("f", 0, Y), Function("g", 0, ("call", "f", ()), writes=[("y", S)]), Function("h", 0, 0),
])


def plain_islands(book):
    """The islands by what stands outside of sets of functions: least ones that nothing outside has to do with."""
    names = book.names()
    text = {name: str(book[name].parts()) for name in names}

    def own(name):
        return {cell.name for cell in book.all_cells()
                if repr(("cell", cell.name)) in text[name] or cell.name in [one for one, _ in book[name].writes]}

    def calls(name):
        return {other for other in names if f"('call', '{other}'" in text[name]}

    def is_apart(some):
        return all(not own(one) & own(other) and other not in calls(one) and one not in calls(other)
                   for one in some for other in names if other not in some)

    found = []
    for many in range(1, len(names) + 1):
        for some in itertools.combinations(names, many):
            if is_apart(some) and not any(set(one) <= set(some) for one in found):
                found.append(list(some))
    return sorted(found, key=lambda island: names.index(island[0]))


class TestIslands(unittest.TestCase):
    def test_in_order(self):
        told = islands(BOOK)
        self.assertEqual(told, [["a", "d"], ["b", "e"], ["c", "f", "g"], ["h"]])
        self.assertEqual((type(told), {type(island) for island in told}), (list, {list}))
        told[0].clear()
        told.clear()
        self.assertEqual(islands(book=BOOK), [["a", "d"], ["b", "e"], ["c", "f", "g"], ["h"]])

    def test_one_island(self):
        self.assertIs(one_island(BOOK), False)
        self.assertIs(one_island(book=Book([], [Function("a", 0, 0)])), True)
        self.assertIs(one_island(Book([], [Function("a", 0, 0), Function("b", 0, ("call", "a", ()))])), True)
        self.assertIs(one_island(Book(CELLS, [Function("a", 0, 0), Function("b", 0, 1)])), False)

    def test_by_text(self):
        # A cell that is read but does not matter is touched, too.
        book = Book(CELLS, [Function("a", 0, ("if", 0, Z, 1)), Function("b", 0, ("same", Z, Z))])
        self.assertEqual(islands(book), [["a", "b"]])

    def test_by_others(self):
        functions = [Function("a", 0, Z), Function("b", 0, Y), Function("c", 0, 0), Function("d", 0, Z, writes=[("y", 0)])]
        self.assertEqual(islands(Book(CELLS, functions)), [["a", "b", "d"], ["c"]])
        chain = [Function("a", 0, Z), Function("b", 0, ("call", "a", ())), Function("c", 0, ("call", "b", ())), Function("d", 0, Z)]
        self.assertEqual(islands(Book(CELLS, chain)), [["a", "b", "c", "d"]])

    def test_books_by_chance(self):
        several = 0
        for seed in range(200):
            book = reference.some_book(seed)
            told = islands(book)
            self.assertEqual(told, plain_islands(book))
            self.assertIs(one_island(book), len(told) == 1)
            several += len(told) > 1
        self.assertGreater(several, 50)

    def test_great_books(self):
        cells = [Cell("c" + letter, "table") for letter in "abcdef"]
        functions = [Function("f" + letter, 0, ("cell", "c" + cell)) for letter, cell in zip("abcdefgh", "fedcbaba")]
        self.assertEqual(islands(Book(cells, functions)), [["fa"], ["fb"], ["fc"], ["fd"], ["fe", "fg"], ["ff", "fh"]])
        self.assertEqual(len(islands(Book(cells, [Function("f" + letter, 0, 0) for letter in "abcdefgh"]))), 8)


class TestPartOf(unittest.TestCase):
    def test_in_the_order_of_the_book(self):
        told = part_of(BOOK, ["g", "e", "g"])
        self.assertEqual(told, Book([CELLS[1], CELLS[2]], [BOOK[name] for name in "befg"]))
        self.assertEqual(part_of(names=("c",), book=BOOK), Book([CELLS[2]], [BOOK["c"]]))
        self.assertEqual(part_of(BOOK, BOOK.names()), Book(CELLS[:3], [BOOK[name] for name in BOOK.names()]))

    def test_islands_are_parts(self):
        for seed in range(60):
            book = reference.some_book(seed)
            for island in islands(book):
                told = part_of(book, island)
                self.assertEqual(told.names(), island)
                self.assertIs(one_island(told), True)
                self.assertEqual([told.touched(name) for name in island], [book.touched(name) for name in island])


class TestJoined(unittest.TestCase):
    def test_in_order(self):
        one = Book([CELLS[1]], [BOOK["f"]])
        other = Book([CELLS[2], CELLS[0]], [BOOK["c"], BOOK["a"]])
        self.assertEqual(joined(one, other), Book([CELLS[1], CELLS[2], CELLS[0]], [BOOK["f"], BOOK["c"], BOOK["a"]]))
        self.assertEqual(joined(other=one, one=other), Book([CELLS[2], CELLS[0], CELLS[1]], [BOOK["c"], BOOK["a"], BOOK["f"]]))

    def test_islands_of_joined_books(self):
        one, other = part_of(BOOK, ["a", "d"]), part_of(BOOK, ["b", "e", "g"])
        self.assertEqual(islands(joined(one, other)), [["a", "d"], ["b", "e"], ["f", "g"]])

    def test_statements_do_what_they_did(self):
        other = Book([Cell("more", "table")], [Function("grow", 0, ("cell", "more"), writes=[("more", ("plus", ("cell", "more"), 1))])])
        for seed in range(60):
            chance = random.Random(seed)
            plan = plain.some_plan(chance, plain.BOOK, plain.some_statement(chance, plain.BOOK, 8))
            state, table, more = reference.some_state(chance, plain.BOOK), plain.some_table(chance), chance.randrange(3)
            answers, behind, made = play(plan, state, table)
            for book in [joined(plain.BOOK, other), joined(other, plain.BOOK)]:
                self.assertEqual(play(moved(plan, book), {**state, "more": more}, table), (answers, {**behind, "more": more}, made))


class TestRefused(unittest.TestCase):
    def test_names(self):
        for value in oddities() + ["a", {"a": 1}]:
            if not isinstance(value, (list, tuple)) or len(value) == 0:
                self.assertEqual(refused(self, BadPart, lambda: part_of(BOOK, value)).part, "names")
        for value in oddities() + ["z", "i", ["a"]]:
            self.assertIs(refused(self, UnknownName, lambda: part_of(BOOK, ["a", value, None])).name, value)

    def test_books(self):
        one = Book([CELLS[1]], [BOOK["f"]])
        for value in oddities() + [CELLS]:
            self.assertEqual(refused(self, BadPart, lambda: joined(value, None)).part, "one")
            self.assertEqual(refused(self, BadPart, lambda: joined(one, value)).part, "other")

    def test_names_in_common(self):
        one = Book([Cell("y", "table")], [Function("f", 0, 0)])
        for other in [one, Book([Cell("y", "frozen")], [Function("g", 0, 0)]), Book([], [Function("g", 0, 0), Function("f", 1, 1)]),
                      Book([], [Function("y", 0, 0)]), Book([Cell("f", "table")], [Function("g", 0, 0)])]:
            self.assertEqual(refused(self, BadPart, lambda: joined(one, other)).part, "other")

    def test_too_many(self):
        cells = [Cell("c" + letter, "table") for letter in "abcdef"]
        eight = [Function("f" + letter, 0, 0) for letter in "abcdefgh"]
        one = Book([Cell("y", "table")], [Function("f", 0, 0)])
        self.assertEqual(refused(self, TooMany, lambda: joined(one, Book(cells, eight))).limit, 6)
        self.assertEqual(refused(self, TooMany, lambda: joined(one, Book(cells[:5], eight))).limit, 8)
        told = joined(one, Book(cells[:5], eight[:7]))
        self.assertEqual((len(told.all_cells()), len(told)), (6, 8))
