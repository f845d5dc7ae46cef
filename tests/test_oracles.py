"""Points [12] and [13]: tokens and oracles."""

import itertools
import random
import unittest

import plain
from oddities import oddities
from refusals import refused
from steadycalls.books import Book
from steadycalls.errors import BadCall, BadPart, BadTable, BadToken, TooMany
from steadycalls.functions import Function
from steadycalls.oracles import Oracle, is_token, token_of
from steadycalls.plans import Plan
from steadycalls.statements import Statement
from test_statements import NO_TABLES

BOOK = Book([], [
    Function("al", 1, 0, label="always"), Function("se", 1, 0, label="session"),
    Function("st", 1, 0, label="statement"), Function("ch", 1, 0), Function("no", 0, 0, label="statement"),
])
TOKENS = [
    ("steady", "f", ()), ("steady", "abcdefgh", (0, 2)), ("folded", "f", (1,)), ("result", 0), ("result", 10 ** 30),
    ("steady", "steady", ()), ("folded", "result", ()),
]
NO_TOKENS = [
    ("steady", "f"), ("steady", "f", (), ()), ["steady", "f", ()], ("steady", "f", []), ("steady", "f", [0]),
    ("steady", "f", (3,)), ("steady", "f", (True,)), ("steady", "f", (0, 0, 0)), ("steady", "f", ("x",)),
    ("steady", "F", ()), ("steady", "", ()), ("steady", 0, ()), ("steady", "f", 0), ("steady", "f", None),
    ("Steady", "f", ()), ("other", "f", ()), ("folded",), ("folded", "f"), ("result",), ("result", -1), ("result", True),
    ("result", False), ("result", "0"), ("result", 0, 0), ("result", None), ("result", (0,)), ["result", 0], ("results", 0),
    (b"result", 0), ("result", "f", ()), ("steady", 0), (None, "f", ()),
]
F_X, SE_ONE, CH_X, NO = ("st", ("x",)), ("se", (1,)), ("ch", ("x",)), ("no", ())


class TestTokens(unittest.TestCase):
    def test_is_token(self):
        for value in TOKENS:
            self.assertIs(is_token(value=value), True)
        for value in NO_TOKENS + oddities():
            self.assertIs(is_token(value), False)
        for value in oddities():
            for wrong in [(value, "f", ()), ("steady", value, ()), ("result", value), (value, 0)]:
                if not isinstance(value, int) or isinstance(value, bool) or value < 0:
                    self.assertIs(is_token(wrong), False)
            self.assertIs(is_token(("folded", "f", value)), isinstance(value, tuple) and len(value) == 0)

    def test_token_of(self):
        outputs = [(("al", (1,)), False), (("se", (1,)), False), (("st", (1,)), False)]
        for marks in itertools.product(plain.MARKS, repeat=3):
            for kept in [False, True]:
                plan = Plan(BOOK, Statement(None, outputs), marks=marks, kept=kept)
                for index, (name, word) in enumerate([("al", "steady"), ("se", "folded" if kept else "steady"), ("st", "folded")]):
                    word = word if marks[index] == "fold" else "steady"
                    self.assertEqual(token_of(plan, index, (2,)), (word, name, (2,)))
        self.assertEqual(token_of(values=(0,), index=2, plan=plan), ("steady", "st", (0,)))

    def test_token_of_refuses(self):
        plan = Plan(BOOK, Statement(("is", F_X, 1), [(CH_X, True), (NO, True)]))
        for value in oddities() + [BOOK]:
            self.assertEqual(refused(self, BadPart, lambda: token_of(value, value, value)).part, "plan")
        for value in oddities() + [3, -1, "0", 1]:
            self.assertIs(refused(self, BadCall, lambda: token_of(plan, value, None)).index, value)
        for value in oddities() + [(), [0], (3,), (True,), (0, 0), 0]:
            self.assertEqual(refused(self, BadPart, lambda: token_of(plan, 0, value)).part, "values")
        self.assertEqual(refused(self, BadPart, lambda: token_of(plan, 2, (0,))).part, "values")
        self.assertEqual(token_of(plan, 2, ()), ("steady", "no", ()))


class TestOracle(unittest.TestCase):
    def setUp(self):
        self.values = {token: place % 3 for place, token in enumerate(TOKENS)}
        self.oracle = Oracle(values=self.values)

    def test_values(self):
        self.assertEqual(len(self.oracle), len(TOKENS))
        self.assertEqual(len(Oracle({})), 0)
        for token in TOKENS:
            self.assertEqual(self.oracle[token], self.values[token])
            self.assertIs(token in self.oracle, True)
        self.values.clear()
        self.assertEqual(len(self.oracle), len(TOKENS))

    def test_what_it_does_not_have(self):
        for value in NO_TOKENS + oddities() + [("result", 1), ("steady", "g", ())]:
            self.assertIs(value in self.oracle, False)
            self.assertIs(refused(self, BadToken, lambda: self.oracle[value]).token, value)

    def test_is_not_iterated(self):
        self.assertRaises(TypeError, iter, self.oracle)
        self.assertRaises(TypeError, list, self.oracle)

    def test_equal(self):
        self.assertIs(self.oracle == Oracle(dict(reversed(self.values.items()))), True)
        for other in [Oracle({}), Oracle({**self.values, TOKENS[0]: 2}), Oracle({**self.values, ("result", 1): 0}), self.values, None]:
            self.assertIs(self.oracle == other, False)

    def test_refused(self):
        for value in oddities() + [list(self.values.items()), set(TOKENS)]:
            if not isinstance(value, dict):
                self.assertIsNone(refused(self, BadToken, lambda: Oracle(value)).token)
        for token in [token for token in NO_TOKENS if "[" not in repr(token)] + [None, 0, "result", True, frozenset([1])]:
            values = {TOKENS[0]: 0, token: 1, TOKENS[1]: 3}
            self.assertEqual(refused(self, BadToken, lambda: Oracle(values)).token, token)
        for value in oddities() + [3, -1, True, "0", (1,)]:
            values = {TOKENS[0]: 0, TOKENS[3]: value, TOKENS[1]: 3}
            self.assertEqual(refused(self, BadToken, lambda: Oracle(values)).token, TOKENS[3])


class TestJudge(unittest.TestCase):
    def hear(self, plan, table, values):
        """What is judged, and the tokens that are asked for, in their order, found by leaving them out."""
        told = Oracle(values).judge(plan, table)
        asked = []
        while True:
            try:
                Oracle({token: values[token] for token in asked}).judge(plan, table)
                return told, asked
            except BadToken as e:
                asked.append(e.token)

    def test_calls_answers_and_order(self):
        tree = ("or", (("is", CH_X, 1), ("is", SE_ONE, 2)))
        outputs = [(NO, False), (CH_X, True), (F_X, True)]
        values = {("result", 0): 0, ("result", 1): 1, ("result", 2): 2, ("result", 3): 0, ("steady", "se", (1,)): 2,
                  ("steady", "no", ()): 0, ("steady", "st", (0,)): 1, ("steady", "st", (2,)): 0}
        plan = Plan(BOOK, Statement(tree, outputs))
        told, asked = self.hear(plan, [(0, 0), (2, 0)], values)
        self.assertEqual(told, ([("ch", (0,)), ("ch", (0,)), ("ch", (2,)), ("ch", (2,))], [(1, 1), (0, 0)]))
        self.assertEqual(asked, [("result", 0), ("steady", "se", (1,)), ("steady", "no", ()), ("result", 1),
                                 ("steady", "st", (0,)), ("result", 2), ("result", 3), ("steady", "st", (2,))])
        told, asked = self.hear(plan.changed("phases", "filters"), [(0, 0), (2, 0)], values)
        self.assertEqual(told, ([("ch", (0,)), ("ch", (2,)), ("ch", (0,)), ("ch", (2,))], [(2, 1), (0, 0)]))
        self.assertEqual(asked, [("result", 0), ("steady", "se", (1,)), ("result", 1), ("steady", "no", ()),
                                 ("result", 2), ("steady", "st", (0,)), ("result", 3), ("steady", "st", (2,))])

    def test_marks(self):
        outputs = [(NO, False), (SE_ONE, False), (SE_ONE, True)]
        values = {("steady", "no", ()): 0, ("folded", "no", ()): 1, ("steady", "se", (1,)): 1, ("folded", "se", (1,)): 2}
        steady, folded = [[(word, "no", ()), (word, "se", (1,))] for word in ("steady", "folded")]
        for marks, kept, asked, answers in [
            (["each", "each", "each", "each"], True, steady, [(1,)]), (["begin", "begin", "memo", "memo"], False, steady, [(1,)]),
            (["fold", "gone", "gone", "fold"], True, folded, [(2,)]), (["fold", "gone", "gone", "fold"], False, [folded[0], steady[1]], [(1,)]),
            (["each", "gone", "gone", "each"], True, steady, [(1,)]), (["fold", "each", "fold", "each"], True, [folded[0], steady[0], folded[1], steady[1]], [(1,)]),
        ]:
            plan = Plan(BOOK, Statement(("not", ("is", NO, 2)), outputs), marks=marks, kept=kept)
            told, found = self.hear(plan, [(0, 0)], values)
            self.assertEqual((told, found), (([], answers), asked))
            self.assertEqual(Oracle({}).judge(plan, []), ([], []))

    def test_begin_is_asked_for_where_it_is_needed(self):
        plan = Plan(BOOK, Statement(("and", (("is", F_X, 1), ("is", NO, 0)))), marks=["each", "begin"])
        values = {("steady", "st", (0,)): 0, ("steady", "st", (1,)): 1, ("steady", "no", ()): 0}
        self.assertEqual(self.hear(plan, [(0, 0)], values)[1], [("steady", "st", (0,))])
        self.assertEqual(self.hear(plan, [(0, 0), (1, 0)], values)[1], list(values))

    def test_lists_are_new(self):
        plan = Plan(BOOK, Statement(None, [(CH_X, True)]))
        table = [(1, 1)]
        oracle = Oracle({("result", 0): 2})
        for part in oracle.judge(plan, table):
            part.clear()
        self.assertEqual(oracle.judge(table=table, plan=plan), ([("ch", (1,))], [(2,)]))
        self.assertEqual(oracle.judge(plan, ((1, 1),)), ([("ch", (1,))], [(2,)]))
        self.assertEqual(table, [(1, 1)])

    def test_refused(self):
        plan = Plan(BOOK, Statement(None, [(CH_X, True)]))
        oracle = Oracle({})
        for value in oddities() + [BOOK]:
            self.assertEqual(refused(self, BadPart, lambda: oracle.judge(value, value)).part, "plan")
        for value in oddities() + NO_TABLES:
            if not isinstance(value, (list, tuple)):
                self.assertIsNone(refused(self, BadTable, lambda: oracle.judge(plan, value)).index)
        for value in oddities() + [(0, 3), [0, 0]]:
            self.assertEqual(refused(self, BadTable, lambda: oracle.judge(plan, [(0, 0), value])).index, 1)
        self.assertEqual(refused(self, TooMany, lambda: oracle.judge(plan, [(0, 0)] * 7)).limit, 6)
        self.assertEqual(refused(self, BadToken, lambda: oracle.judge(plan, [(0, 0)] * 6)).token, ("result", 0))

    def test_as_the_document_says(self):
        for seed in range(200):
            chance = random.Random(seed)
            plan = plain.some_plan(chance, plain.BOOK, plain.some_statement(chance, plain.BOOK, 8))
            table = plain.some_table(chance)
            values = {}
            while True:
                try:
                    made, answers, asked = plain.hear(plan, table, values)
                    break
                except plain.Asked as e:
                    values[e.args[0]] = chance.randrange(3)
            told, found = self.hear(plan, table, values)
            self.assertEqual((told, found), ((made, answers), list(dict.fromkeys(asked))))


class TestPlaysGoByTokens(unittest.TestCase):
    def test_values_of_a_world(self):
        """Whatever a world tells, an oracle with the same values judges the same."""
        from steadycalls.plays import folded, play
        import reference
        for seed in range(150):
            chance = random.Random(seed)
            plan = plain.some_plan(chance, plain.BOOK, plain.some_statement(chance, plain.BOOK, 6))
            state, planning = reference.some_state(chance, plain.BOOK), reference.some_state(chance, plain.BOOK)
            for cell in plain.BOOK.all_cells():
                if cell.kind == "frozen" or cell.kind == "setting" and not plan.kept:
                    planning[cell.name] = state[cell.name]
            table = plain.some_table(chance)
            folds = folded(plan, planning)
            values = {}
            results = [told for _, index, told in plain.play(plan, state, table, folds)[3]
                       if plan.label_of(index).name == "changing"]
            while True:
                try:
                    made, answers, _ = plain.hear(plan, table, values)
                    break
                except plain.Asked as e:
                    token = e.args[0]
                    if token[0] == "result":
                        values[token] = results[token[1]]
                    else:
                        there = planning if token[0] == "folded" else state
                        values[token] = plain.World(plain.BOOK, there).call(token[1], token[2])
            played = play(plan, state, table, folds=folds)
            self.assertEqual(played[0], answers)
            changing = [call for call in played[2] if plain.BOOK[call[0]].label.name == "changing"]
            self.assertEqual(changing, made)
            self.assertEqual(Oracle(values).judge(plan, table), (made, answers))
