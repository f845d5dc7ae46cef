"""Points [3](a) and [9]: truest labels, and what bars higher ones."""

import unittest

import reference
from oddities import oddities
from steadycalls.books import Book
from steadycalls.cells import Cell
from steadycalls.depends import cases, parting, value_at, writes_at, writing
from steadycalls.errors import BadLabel, UnknownName
from steadycalls.functions import Function
from steadycalls.labels import LABELS, Label
from steadycalls.truest import bars, is_bar, is_right, truest, truest_book, wrong_names

CELLS = [Cell("z", "table"), Cell("s", "setting"), Cell("k", "frozen"), Cell("y", "table")]
BLANK = {"z": 0, "s": 0, "k": 0, "y": 0}
SEEDS = 120

Z = ("cell", "z")
S = ("cell", "s")
TICK = ("tick",)


def one(result, arguments=0, writes=(), label="changing", ahead=()):
    return Book(CELLS, list(ahead) + [Function("f", arguments, result, writes=writes, label=label)])


def refused(case, error, call):
    with case.assertRaises(error) as caught:
        call()
    return caught.exception


class TestTruest(unittest.TestCase):
    def test_example(self):
        book = Book([Cell("z", "table")], [Function("f", 1, ("plus", ("arg", 0), ("cell", "z")))])
        told = [truest(book, "f").name, bars(book, "f", "always")[0], bars(book, "f", "statement")]
        self.assertEqual(told, ["statement", "table", None])

    def test_results(self):
        for result, told in [
            (1, "always"), (("arg", 1), "always"), (("cell", "k"), "always"), (S, "session"), (Z, "statement"),
            (TICK, "changing"), (("plus", S, Z), "statement"), (("plus", S, TICK), "changing"),
        ]:
            self.assertEqual(truest(name="f", book=one(result, 2)), Label(told))

    def test_what_does_not_count(self):
        for result, told in [
            (("if", 0, Z, 1), "always"), (("plus", Z, ("plus", Z, Z)), "always"), (("if", 0, TICK, S), "session"),
            (("less", TICK, 0), "always"), (("if", ("less", Z, 0), TICK, S), "session"),
            (("if", Z, S, S), "session"), (("same", TICK, TICK), "always"),
            (("plus", TICK, ("plus", TICK, TICK)), "always"),
        ]:
            self.assertEqual(truest(one(result), "f").name, told)

    def test_writes(self):
        for writes, told in [
            ([("z", 1)], "changing"), ([("z", Z)], "always"), ([("z", ("if", 0, 1, Z))], "always"),
            ([("z", ("if", ("less", S, 2), Z, 2))], "changing"), ([("z", ("plus", Z, ("plus", Z, ("plus", Z, Z))))], "always"),
            ([("z", ("cell", "y"))], "changing"), ([("y", ("cell", "y")), ("z", TICK)], "changing"),
        ]:
            self.assertEqual(truest(one(1, 0, writes), "f").name, told)

    def test_calls_go_by_bodies_not_by_labels(self):
        for label in LABELS:
            low = Function("low", 1, ("arg", 0), label=label)
            self.assertEqual(truest(one(("call", "low", (S,)), ahead=[low]), "f").name, "session")
            low = Function("low", 0, TICK, label=label)
            self.assertEqual(truest(one(("call", "low", ()), ahead=[low]), "f").name, "changing")
            self.assertEqual(truest(one(("less", ("call", "low", ()), 0), ahead=[low]), "f").name, "always")
            low = Function("low", 0, 0, label=label, writes=[("z", 1)])
            self.assertEqual(truest(one(("call", "low", ()), ahead=[low]), "f").name, "changing")
            undone = one(("call", "low", ()), 0, [("z", 0)], ahead=[low])
            self.assertEqual(truest(undone, "f").name, "changing")

    def test_as_the_document_says(self):
        for seed in range(SEEDS):
            book = reference.some_book(seed)
            names = {name: reference.truest_name(book, name) for name in book.names()}
            right = {name: LABELS.index(book[name].label.name) >= LABELS.index(names[name]) for name in names}
            self.assertEqual({name: truest(book, name).name for name in names}, names)
            self.assertEqual({name: is_right(book, name) for name in names}, right)
            self.assertEqual(wrong_names(book), [name for name in names if not right[name]])
            self.assertEqual(truest_book(book), book.labelled(names))
            for name in names:
                for label in LABELS:
                    self.check_bars(book, name, label, names[name])

    def check_bars(self, book, name, label, best):
        told = bars(book, name, label)
        self.assertIs(told is None, LABELS.index(label) >= LABELS.index(best))
        if told is not None:
            self.assertIs(is_bar(book, name, label, told), True)
            for case in told[2:]:
                self.assertIn(case, list(cases(book, name)))
            # The first one that bars it is told.
            if writing(book, name) is not None:
                first = "writes"
            else:
                words = {"statement": ["tick"], "session": ["tick", "table"], "always": ["tick", "table", "setting"]}
                first = [word for word in words[label] if parting(book, name, word) is not None][0]
            self.assertEqual(told[0], first)


class TestRight(unittest.TestCase):
    def test_a_lower_label_is_right(self):
        for result, best in [(1, "always"), (S, "session"), (Z, "statement"), (TICK, "changing")]:
            for label in LABELS:
                book = one(result, label=label)
                right = LABELS.index(label) >= LABELS.index(best)
                self.assertIs(is_right(name="f", book=book), right)
                self.assertEqual(wrong_names(book=book), [] if right else ["f"])
                self.assertEqual(truest_book(book=book), one(result, label=best))
                self.assertEqual(book["f"].label.name, label)

    def test_wrong_names_in_order(self):
        functions = [Function("g", 0, TICK, label="statement"), Function("b", 0, 1), Function("a", 0, S, label="always"),
                     Function("c", 0, Z, label="statement")]
        self.assertEqual(wrong_names(Book(CELLS, functions)), ["g", "a"])


class TestBars(unittest.TestCase):
    def test_first_of_these(self):
        all_four = ("plus", ("plus", Z, S), TICK)
        book = one(all_four, 1, [("y", ("arg", 0))])
        for label in ["always", "session", "statement", Label("always")]:
            self.assertEqual(bars(book, "f", label), ("writes", (0,), ({**BLANK, "y": 1}, 0)))
        self.assertIsNone(bars(label="changing", name="f", book=book))
        self.assertEqual([bars(one(all_four), "f", label)[0] for label in LABELS[:3]], ["tick"] * 3)
        self.assertEqual([bars(one(("plus", Z, S)), "f", label)[0] for label in LABELS[:2]], ["table"] * 2)
        self.assertIsNone(bars(one(("plus", Z, S)), "f", "statement"))
        self.assertEqual(bars(one(S), "f", "always")[0], "setting")
        self.assertIsNone(bars(one(S), "f", "session"))
        self.assertIsNone(bars(one(1), "f", "always"))

    def test_forms(self):
        word, arguments, first, second = bars(one(("plus", ("arg", 0), S), 1), "f", "always")
        self.assertEqual((word, arguments, first), ("setting", (0,), (BLANK, 0)))
        self.assertEqual((second[1], {**second[0], "s": 0}), (0, BLANK))
        self.assertEqual(bars(one(0, 0, [("z", 1)]), "f", "session"), ("writes", (), (BLANK, 0)))


class TestIsBar(unittest.TestCase):
    def setUp(self):
        self.book = one(("plus", ("plus", Z, S), ("plus", TICK, ("arg", 0))), 1, [("y", ("arg", 0))])

    def check(self, value, labels, book=None):
        book = self.book if book is None else book
        for label in LABELS:
            self.assertIs(is_bar(book, "f", label, value), label in labels)
            self.assertIs(is_bar(value=value, label=Label(label), name="f", book=book), label in labels)

    def test_each_word_bars_labels(self):
        steady = ["always", "session", "statement"]
        self.check(("writes", (1,), (BLANK, 0)), steady)
        self.check(("tick", (1,), (BLANK, 0), (BLANK, 2)), steady)
        self.check(("table", (1,), (BLANK, 1), ({**BLANK, "z": 1}, 1)), ["always", "session"])
        self.check(("setting", (1,), (BLANK, 1), ({**BLANK, "s": 1}, 1)), ["always"])

    def test_any_cases_of_the_book(self):
        state = {"y": 1, "k": 2, "s": 1, "z": 2}
        self.check(("table", (2,), (state, 1), ({**state, "z": 1, "y": 2}, 1)), ["always", "session"])
        self.check(("writes", (2,), ({**BLANK, "k": 1}, 2)), ["always", "session", "statement"])
        still = one(("less", Z, S))
        self.check(("table", (), ({**BLANK, "s": 1}, 2), ({**BLANK, "s": 1, "z": 1, "y": 1}, 2)), ["always", "session"], still)

    def test_nothing_is_seen_there(self):
        self.check(("writes", (0,), (BLANK, 0)), [])
        self.check(("writes", (1,), ({**BLANK, "y": 1}, 0)), [])
        self.check(("tick", (1,), (BLANK, 1), (BLANK, 1)), [])
        self.check(("table", (1,), (BLANK, 1), ({**BLANK, "y": 1}, 1)), [])
        self.check(("setting", (1,), (BLANK, 1), (BLANK, 1)), [])

    def test_cases_that_differ_in_more(self):
        table = {**BLANK, "z": 1}
        for other in [({**table, "s": 1}, 1), ({**table, "k": 1}, 1), (table, 0), (table, 2)]:
            self.check(("table", (1,), (BLANK, 1), other), [])
        setting = {**BLANK, "s": 1}
        for other in [({**setting, "z": 1}, 1), ({**setting, "k": 1}, 1), (setting, 0), ({**setting, "y": 1}, 1)]:
            self.check(("setting", (1,), (BLANK, 1), other), [])
        for state in [table, setting, {**BLANK, "k": 1}, {**BLANK, "y": 2}]:
            self.check(("tick", (1,), (BLANK, 1), (state, 0)), [])
        book = one(("cell", "k"))
        self.check(("frozen", (), (BLANK, 0), ({**BLANK, "k": 1}, 0)), [], book)

    def test_other_forms(self):
        good = ("tick", (1,), (BLANK, 0), (BLANK, 2))
        wrong = [
            list(good), good[:3], good + good[3:], ("writes",) + good[1:], ("ticks",) + good[1:], good[1:], (),
            ("tick", [1], good[2], good[3]), ("tick", (), good[2], good[3]), ("tick", (1, 1), good[2], good[3]),
            ("tick", (3,), good[2], good[3]), ("tick", (True,), good[2], good[3]), ("tick", 1, good[2], good[3]),
            ("writes", (1,)), ("writes", [1], (BLANK, 0)), ("writes", (1,), [BLANK, 0]), ("writes", (1,), BLANK),
            ("writes", (1,), (BLANK, 0), (BLANK, 0)),
        ]
        cases_wrong = [
            [BLANK, 2], (BLANK,), (BLANK, 2, 2), (2, BLANK), (BLANK, 3), (BLANK, -1), (BLANK, True), (BLANK, None),
            ({}, 2), ({"z": 0, "s": 0, "y": 0}, 2), ({**BLANK, "a": 0}, 2), ({**BLANK, "y": 3}, 2),
            ({**BLANK, "y": False}, 2), (list(BLANK), 2), (tuple(BLANK.items()), 2), None,
        ]
        for case in cases_wrong + oddities():
            wrong += [("tick", (1,), good[2], case), ("tick", (1,), case, good[3]), ("writes", (1,), case)]
        for value in oddities():
            wrong += [value, (value,), (value,) + good[1:], ("tick", value, good[2], good[3]), ("writes", value, (BLANK, 0))]
            wrong += [("tick", (value,), good[2], good[3]), ("tick", (1,), good[2], (BLANK, value))]
        self.check(good, ["always", "session", "statement"])
        for value in wrong:
            self.check(value, [])


class TestRefused(unittest.TestCase):
    def test_unknown_names(self):
        book = one(1)
        for value in oddities() + ["z", "other"]:
            for call in [lambda: truest(book, value), lambda: is_right(book, value), lambda: bars(book, value, None),
                         lambda: is_bar(book, value, None, None)]:
                self.assertIs(refused(self, UnknownName, call).name, value)

    def test_labels(self):
        for value in oddities() + ["Always", ("always",), 1]:
            for call in [lambda: bars(one(1), "f", value), lambda: is_bar(one(1), "f", value, None)]:
                self.assertIs(refused(self, BadLabel, call).label, value)
