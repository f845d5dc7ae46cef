"""Points [5], [9] and [18]: moves, and least sets of them that raise a label."""

import itertools
import random
import unittest

import reference
from oddities import oddities
from refusals import refused
from steadycalls.books import Book
from steadycalls.cells import Cell
from steadycalls.errors import BadLabel, BadMove, TooMany, UnknownName
from steadycalls.functions import Function
from steadycalls.labels import LABELS, Label
from steadycalls.raising import can_move, moves_of, raising, with_moves
from steadycalls.truest import truest

Z, Y, S, K = ("cell", "z"), ("cell", "y"), ("cell", "s"), ("cell", "k")
TICK = ("tick",)
CELLS = [Cell("z", "table"), Cell("y", "table"), Cell("s", "setting"), Cell("k", "frozen")]
BOOK = Book(CELLS, [
    Function("up", 0, Z, writes=[("z", ("plus", Z, TICK)), ("y", 1)], cost=7),
    Function("rate", 1, ("if", ("arg", 0), S, K), label="session"),
    Function("over", 1, ("call", "rate", (("less", TICK, ("arg", 0)),)), label="statement"),
    Function("top", 0, ("plus", ("call", "over", (1,)), ("call", "up", ()))),
    Function("alone", 0, 2, label="always"),
])
UP_MOVES = [("unwritten", "up", "z"), ("unwritten", "up", "y"), ("untimed", "up")]
ALL_MOVES = UP_MOVES + [("untimed", "over")] + [(word, cell) for cell in "zy" for word in ["set", "frozen"]] + [("frozen", "s")]


def plain_moves(book, name):
    """The moves that touch a function, as the document lists them."""
    moves = []
    for reached in book.reaches(name):
        function = book[reached]
        moves += [("unwritten", reached, cell) for cell, _ in function.writes]
        if "tick" in str(function.parts()):
            moves.append(("untimed", reached))
    for cell in book.all_cells():
        if cell.name in book.touched(name):
            moves += [("set", cell.name)] * (cell.kind == "table") + [("frozen", cell.name)] * (cell.kind != "frozen")
    return moves


def untimed(term):
    if term == ("tick",):
        return 0
    return tuple(untimed(part) for part in term) if isinstance(term, tuple) else term


def plain_book(book, moves):
    """None, or the book with moves made; one cell is moved at most once."""
    cells = [move[1] for move in moves if move[0] in ("set", "frozen")]
    if len(cells) != len(set(cells)):
        return None
    functions = []
    for name in book.names():
        function = book[name]
        result, writes = function.result, [write for write in function.writes if ("unwritten", name, write[0]) not in moves]
        if ("untimed", name) in moves:
            result, writes = untimed(result), [(cell, untimed(term)) for cell, term in writes]
        functions.append(Function(name, function.arguments, result, label=function.label, writes=writes, cost=function.cost))
    kinds = {cell.name: cell.kind for cell in book.all_cells()}
    kinds.update({move[1]: "setting" if move[0] == "set" else "frozen" for move in moves if move[0] in ("set", "frozen")})
    if any(kinds[cell] != "table" for function in functions for cell, _ in function.writes):
        return None
    return Book([Cell(name, kind) for name, kind in kinds.items()], functions)


def plain_raising(book, name, label):
    found = []
    moves = plain_moves(book, name)
    for many in range(len(moves) + 1):
        for chosen in itertools.combinations(moves, many):
            if not any(set(part) <= set(chosen) for part in found):
                moved = plain_book(book, chosen)
                if moved is not None and LABELS.index(reference.truest_name(moved, name)) <= LABELS.index(label):
                    found.append(chosen)
    return found


class TestMovesOf(unittest.TestCase):
    def test_in_order(self):
        self.assertEqual(moves_of(BOOK, "top"), ALL_MOVES)
        self.assertEqual(moves_of(name="up", book=BOOK), UP_MOVES + ALL_MOVES[4:8])
        self.assertEqual(moves_of(BOOK, "rate"), [("frozen", "s")])
        self.assertEqual(moves_of(BOOK, "over"), [("untimed", "over"), ("frozen", "s")])
        self.assertEqual(moves_of(BOOK, "alone"), [])

    def test_books_by_chance(self):
        for seed in range(150):
            book = reference.some_book(seed)
            for name in book.names():
                told = moves_of(book, name)
                self.assertEqual(told, plain_moves(book, name))
                self.assertTrue(all(isinstance(move, tuple) for move in told))
                told.clear()


class TestMoves(unittest.TestCase):
    def test_untimed(self):
        told = with_moves(BOOK, [("untimed", "up"), ("untimed", "over")])
        up = BOOK["up"].changed("writes", [("z", ("plus", Z, 0)), ("y", 1)])
        over = BOOK["over"].changed("result", ("call", "rate", (("less", 0, ("arg", 0)),)))
        self.assertEqual(told, BOOK.with_function(up).with_function(over))

    def test_untimed_wherever_the_tick_is(self):
        deep = ("if", TICK, ("less", TICK, 1), ("same", 2, ("plus", TICK, TICK)))
        book = Book([], [Function("f", 0, TICK), Function("g", 0, deep)])
        self.assertEqual(with_moves(book, [("untimed", "g")])["g"].result, ("if", 0, ("less", 0, 1), ("same", 2, ("plus", 0, 0))))
        self.assertEqual(with_moves(book, (("untimed", "f"),))["f"].result, 0)
        self.assertEqual(with_moves(book, [("untimed", "f")])["g"], book["g"])

    def test_unwritten(self):
        told = with_moves(moves=[("unwritten", "up", "y")], book=BOOK)
        self.assertEqual(told, BOOK.with_function(BOOK["up"].changed("writes", [("z", ("plus", Z, TICK))])))

    def test_cells(self):
        told = with_moves(BOOK, [("frozen", "s")])
        self.assertEqual([(cell.name, cell.kind) for cell in told.all_cells()],
                         [("z", "table"), ("y", "table"), ("s", "frozen"), ("k", "frozen")])
        self.assertEqual([told[name] for name in told.names()], [BOOK[name] for name in BOOK.names()])
        # Moves of functions are made first, wherever they stand.
        told = with_moves(BOOK, [("set", "z"), ("frozen", "y"), ("unwritten", "up", "y"), ("unwritten", "up", "z")])
        self.assertEqual([cell.kind for cell in told.all_cells()], ["setting", "frozen", "setting", "frozen"])
        self.assertEqual(told["up"].writes, ())

    def test_none(self):
        self.assertEqual([with_moves(BOOK, []), with_moves(BOOK, ())], [BOOK, BOOK])
        self.assertIs(can_move(BOOK, []), True)

    def test_can_move(self):
        for moves, told in [([("set", "z")], False), ([("frozen", "y")], False), ([("set", "z"), ("unwritten", "up", "z")], True),
                            ([("unwritten", "up", "y"), ("set", "z")], False), ((("frozen", "s"), ("untimed", "up")), True)]:
            self.assertIs(can_move(book=BOOK, moves=moves), told)
        # A function that is not reached writes, too.
        book = Book(CELLS, [Function("look", 0, Z, label="statement"), BOOK["up"]])
        self.assertIs(can_move(book, [("set", "z")]), False)
        self.assertEqual(raising(book, "look", "session"), [])

    def test_books_by_chance(self):
        refusals = 0
        for seed in range(150):
            chance = random.Random(seed)
            book = reference.some_book(seed)
            moves = []
            for move in plain_moves(book, chance.choice(book.names())):
                if chance.random() < 0.5 and not (move[0] == "frozen" and ("set", move[1]) in moves):
                    moves.append(move)
            chance.shuffle(moves)
            best = plain_book(book, moves)
            self.assertIs(can_move(book, moves), best is not None)
            if best is None:
                refusals += 1
                self.assertIs(refused(self, BadMove, lambda: with_moves(book, moves)).index, moves)
            else:
                self.assertEqual(with_moves(book, moves), best)
        self.assertGreater(refusals, 5)


class TestRaising(unittest.TestCase):
    def test_writes_and_the_tick(self):
        book = Book(CELLS, [BOOK["up"]])
        self.assertEqual(raising(book, "up", "changing"), [()])
        # The table z still is read; y is written in vain no more.
        both = (("unwritten", "up", "z"), ("unwritten", "up", "y"))
        self.assertEqual(raising(book, "up", "statement"), [both, (("unwritten", "up", "y"), ("untimed", "up"))])
        self.assertEqual(raising(label="session", name="up", book=book), [both + (("set", "z"),), both + (("frozen", "z"),)])
        self.assertEqual(raising(book, "up", Label("always")), [both + (("frozen", "z"),)])

    def test_already_there(self):
        for name, label in [("alone", "always"), ("rate", "session"), ("rate", "changing"), ("over", "changing")]:
            self.assertEqual(raising(BOOK, name, label), [()])
        self.assertEqual(raising(BOOK, "rate", "always"), [(("frozen", "s"),)])
        self.assertEqual(raising(BOOK, "over", "session"), [(("untimed", "over"),)])
        self.assertEqual(raising(BOOK, "over", "always"), [(("untimed", "over"), ("frozen", "s"))])

    def test_either_of_two(self):
        book = Book([], [Function("f", 0, TICK), Function("g", 0, ("same", ("plus", ("call", "f", ()), TICK), 2), label="always")])
        self.assertEqual(raising(book, "g", "always"), [(("untimed", "f"), ("untimed", "g"))])
        book = Book([], [Function("f", 0, TICK), Function("g", 0, ("if", TICK, ("call", "f", ()), 0))])
        self.assertEqual(raising(book, "g", "statement"), [(("untimed", "f"),), (("untimed", "g"),)])
        self.assertEqual(raising(book, "f", "statement"), [(("untimed", "f"),)])

    def test_writes_that_change_nothing(self):
        cells = [Cell("z", "table"), Cell("y", "table")]
        copy = Function("copy", 0, 0, writes=[("z", Y)])
        self.assertEqual(raising(Book(cells, [copy]), "copy", "always"), [(("unwritten", "copy", "z"),)])
        hidden = Function("hidden", 0, 0, writes=[("z", Z), ("y", ("if", ("same", Z, Y), Y, Y))])
        self.assertEqual(raising(Book(cells, [hidden]), "hidden", "always"), [()])

    def test_more_moves_need_not_raise_more(self):
        # The write puts z back, after it was changed by what is called: without it, z is changed.
        cells = [Cell("z", "table"), Cell("y", "setting")]
        book = Book(cells, [
            Function("up", 0, 0, writes=[("z", ("plus", Z, 1))]),
            Function("back", 0, ("call", "up", ()), writes=[("z", ("plus", Z, 2))]),
        ])
        self.assertEqual(raising(book, "back", "always"), [()])
        one = with_moves(book, [("unwritten", "back", "z")])
        self.assertEqual(truest(one, "back").name, "changing")
        self.assertEqual(raising(one, "back", "always"), [(("unwritten", "up", "z"),)])

    def test_the_label_may_be_lower(self):
        told = raising(BOOK, "rate", "statement")
        self.assertEqual(told, [()])
        told.append(None)
        self.assertEqual(raising(BOOK, "rate", "statement"), [()])

    def test_as_the_document_says(self):
        several = 0
        for seed in range(140):
            book = reference.some_book(seed)
            for name in book.names():
                if len(plain_moves(book, name)) > 5:
                    continue
                for label in LABELS:
                    told = raising(book, name, label)
                    self.assertEqual(told, plain_raising(book, name, label))
                    self.assertTrue(all(isinstance(moves, tuple) for moves in told))
                    several += len(told) > 1
        self.assertGreater(several, 15)

    def test_with_moves_made_it_has_the_label(self):
        made = 0
        for seed in range(80):
            book = reference.some_book(seed)
            for name in book.names():
                if len(moves_of(book, name)) <= 8:
                    for label in LABELS[:3]:
                        for moves in raising(book, name, label):
                            made += 1
                            self.assertIs(truest(with_moves(book, moves), name) < Label(label), False)
        self.assertGreater(made, 100)


class TestGreat(unittest.TestCase):
    """Books of eight functions and six cells; eight moves, and nine."""

    def test_eight_moves(self):
        cells = [Cell("c" + letter, "setting") for letter in "abcdef"]
        functions = [Function("fa", 2, ("plus", ("arg", 0), ("plus", ("cell", "ca"), ("cell", "cb"))))]
        for letter, ahead, cell in zip("bcdefgh", "abcdefg", ["cc", "cd", "ce", "cf", "ca", "cb", "cc"]):
            inner = ("call", "f" + ahead, (("arg", 1), ("arg", 0)))
            functions.append(Function("f" + letter, 2, ("plus", inner, ("if", ("less", 2, ("arg", 0)), 0, ("cell", cell)))))
        for place in (2, 5):
            inner = functions[place].result
            functions[place] = functions[place].changed("result", ("plus", inner, ("less", 1, TICK)))
        book = Book(cells, functions)
        ticks = (("untimed", "fc"), ("untimed", "ff"))
        self.assertEqual(raising(book, "fh", "statement"), [ticks])
        # ca, cb and cc are added twice.
        frozen = tuple(("frozen", cell.name) for cell in cells)
        self.assertEqual(raising(book, "fh", "always"), [ticks + frozen])
        self.assertEqual(raising(book, "fa", "always"), [frozen[:2]])

    def test_too_many(self):
        cells = [Cell("c" + letter, "table") for letter in "abcdef"]
        four = ("plus", ("plus", ("cell", "ca"), ("cell", "cb")), ("plus", ("cell", "cc"), ("cell", "cd")))
        book = Book(cells, [Function("four", 0, four, label="always"), Function("five", 0, ("plus", ("call", "four", ()), TICK))])
        self.assertEqual(len(moves_of(book, "four")), 8)
        told = raising(book, "four", "session")
        self.assertEqual(told, [tuple((word, cell.name) for word, cell in zip(words, cells))
                                for words in itertools.product(["set", "frozen"], repeat=4)])
        for label in LABELS:
            self.assertEqual(refused(self, TooMany, lambda: raising(book, "five", label)).limit, 8)

    def test_eight_functions_with_the_tick(self):
        cells = [Cell("c" + letter, "frozen") for letter in "abcdef"]
        functions = [Function("fa", 2, ("if", ("same", ("arg", 0), ("arg", 1)), TICK, ("cell", "ca")))]
        for letter, ahead, cell in zip("bcdefgh", "abcdefg", "bcdefab"):
            inner = ("call", "f" + ahead, (("arg", 1), ("cell", "c" + cell)))
            functions.append(Function("f" + letter, 2, ("if", ("same", ("arg", 0), 1), TICK, inner)))
        book = Book(cells, functions)
        moves = tuple(("untimed", function.name) for function in functions)
        self.assertEqual(moves_of(book, "fh"), list(moves))
        self.assertEqual(raising(book, "fh", "always"), [moves])


class TestRefused(unittest.TestCase):
    def test_names_and_labels(self):
        for value in oddities() + ["z", "nothing"]:
            self.assertIs(refused(self, UnknownName, lambda: moves_of(BOOK, value)).name, value)
            self.assertIs(refused(self, UnknownName, lambda: raising(BOOK, value, None)).name, value)
            self.assertIs(refused(self, BadLabel, lambda: raising(BOOK, "up", value)).label, value)
        # A label that is none goes ahead of moves that are too many.
        self.assertEqual(refused(self, BadLabel, lambda: raising(BOOK, "top", "steady")).label, "steady")
        self.assertEqual(refused(self, TooMany, lambda: raising(BOOK, "top", "always")).limit, 8)

    def test_no_list(self):
        for value in oddities() + [{("set", "z"): 1}]:
            if not isinstance(value, (list, tuple)):
                self.assertIsNone(refused(self, BadMove, lambda: can_move(BOOK, value)).index)
                self.assertIsNone(refused(self, BadMove, lambda: with_moves(BOOK, value)).index)

    def test_no_moves(self):
        wrong = [["frozen", "s"], ("frozen", "k"), ("set", "s"), ("set", "k"), ("set", "up"), ("untimed", "rate"), ("untimed", "z"),
                 ("unwritten", "up"), ("unwritten", "up", "s"), ("unwritten", "top", "z"), ("unwritten", "z", "up"), ("set",),
                 ("untimed", "up", "z"), ("frozen", "s", "z"), ("set", None), ("thaw", "s"), "set", ("frozen", "nothing")]
        for value in oddities() + wrong:
            for call in [can_move, with_moves]:
                self.assertEqual(refused(self, BadMove, lambda: call(BOOK, [("frozen", "s"), value])).index, 1)
                self.assertEqual(refused(self, BadMove, lambda: call(BOOK, (value, value))).index, 0)

    def test_moves_twice(self):
        for moves, index in [([("untimed", "up"), ("untimed", "over"), ("untimed", "up")], 2), ([("set", "z"), ("set", "z")], 1),
                             ([("set", "z"), ("unwritten", "up", "z"), ("frozen", "z")], 2), ([("frozen", "s"), ("frozen", "s")], 1),
                             ([("frozen", "z"), ("set", "z")], 1)]:
            for call in [can_move, with_moves]:
                self.assertEqual(refused(self, BadMove, lambda: call(BOOK, moves)).index, index)

    def test_moves_that_cannot_be_made(self):
        for moves in [[("set", "z")], (("untimed", "up"), ("frozen", "y"))]:
            self.assertIs(refused(self, BadMove, lambda: with_moves(BOOK, moves)).index, moves)
