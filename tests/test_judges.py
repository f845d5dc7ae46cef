"""Points [3](c) and [13]: papers and their judge."""

import random
import unittest

import plain
from oddities import oddities
from refusals import refused
from steadycalls.alike import are_alike, difference
from steadycalls.books import Book
from steadycalls.errors import BadPlan, TooMany
from steadycalls.functions import Function
from steadycalls.judges import lets_paper, paper_of
from steadycalls.plans import Plan
from steadycalls.statements import Statement
from test_alike import CH, LETTERS, MIXED, SE, ST, STEADY, eight, plan_of
from test_statements import NO_TABLES

SE_TOKEN, ST_TOKEN = ("steady", "se", ()), ("steady", "st", ())


def pair(seed, most=3):
    chance = random.Random(seed)
    names = [["al", "se", "up"], ["se", "up", "ch"], ["up", "st", "se"], None][seed % 4]
    one = plain.some_plan(chance, plain.BOOK, plain.some_statement(chance, plain.BOOK, most, names))
    return chance, one, plain.near_plan(chance, one)


def nodes(tree, place=()):
    """All places in a tree, each a tuple of the steps to it, and what stands there."""
    yield place, tree
    if tree is not None:
        for step in (2, 3):
            yield from nodes(tree[step], place + (step,))


def put(tree, place, part):
    """The tree with another part at a place."""
    if not place:
        return part
    inner = put(tree[place[0]], place[1:], part)
    return tree[:place[0]] + (inner,) + tree[place[0] + 1:]


def marred(chance, trees):
    """Trees with one thing changed."""
    trees = list(trees)
    at = chance.randrange(len(trees))
    table, tree = trees[at]
    kind = chance.randrange(7)
    if kind == 0:
        trees.pop(at)
    elif kind == 1:
        trees.insert(chance.randrange(len(trees)), trees[at])
    else:
        place, part = chance.choice(list(nodes(tree)))
        if kind == 2:
            part = None
        elif part is None or kind == 3:
            token = chance.choice([("result", chance.randrange(3)), SE_TOKEN, ST_TOKEN, ("steady", "al", (0,))])
            some = tuple(value for value in range(3) if chance.random() < 0.5)
            part = (token, some, part, chance.choice([part, None]))
        elif kind == 4:
            part = part[:2] + (part[3], part[2])
        elif kind == 5:
            part = (part[0], tuple(value for value in range(3) if chance.random() < 0.5)) + part[2:]
        else:
            part = chance.choice(part[2:])
        trees[at] = (table, put(tree, place, part))
    return trees


class TestPapers(unittest.TestCase):
    def test_forms(self):
        one = plan_of(("and", (("is", SE, 1), ("is", CH, 1))))
        other = one.changed("orders", [(1, 0)])
        told = paper_of(other=other, one=one)
        self.assertEqual((type(told), len(told), told[0], type(told[1]), type(told[2])), (tuple, 3, "unlike", tuple, dict))
        self.assertEqual((list(told[1]), told[2]), difference(one, other))
        same = paper_of(one, one)
        self.assertEqual((type(same), len(same), same[0], type(same[1])), (tuple, 2, "alike", list))
        self.assertEqual([table for table, _ in same[1]], [(), ((0, 0),), ((0, 0), (0, 0))])
        self.assertIs(lets_paper(one, one, same), True)
        self.assertIs(lets_paper(value=told, other=other, one=one), True)

    def test_papers_of_plans_by_chance(self):
        kinds = []
        for seed in range(240):
            _, one, other = pair(seed)
            told = paper_of(one, other)
            kinds.append(told[0])
            self.assertIs(told[0] == "alike", are_alike(one, other))
            self.assertIs(lets_paper(one, other, told), True)
            self.assertIs(lets_paper(other, one, told), True)
            if told[0] == "alike":
                self.assertIs(plain.lets_trees(one, other, told[1]), True)
                self.assertIs(lets_paper(one, other, ("alike", told[1][::-1])), True)
        self.assertGreater(min(kinds.count("alike"), kinds.count("unlike")), 8)

    def test_marred_papers(self):
        taken = 0
        for seed in range(900):
            chance, one, other = pair(seed)
            trees = paper_of(one, one)[1]
            for _ in range(chance.randrange(3)):
                trees = marred(chance, trees)
            if seed % 2:
                other = one
            right = plain.lets_trees(one, other, trees)
            taken += right
            self.assertIs(lets_paper(one, other, ("alike", trees)), right)
            if right:
                self.assertIs(are_alike(one, other), True)
        self.assertGreater(taken, 100)

    def test_eight_calls(self):
        for one in [plan_of(eight("or"), book=STEADY), plan_of(eight("and"), book=STEADY, marks=["memo"] * 8)]:
            other = one.changed("marks", None).changed("phases", "filters")
            told = paper_of(one, other)
            self.assertEqual((told[0], len(told[1])), ("alike", 91))
            self.assertIs(lets_paper(one, other, told), True)
            self.assertIs(lets_paper(one, other, (told[0], told[1][1:])), False)

    def test_too_many(self):
        letters = [("is", ("f" + letter, ("x",)), 1) for letter in LETTERS]
        a, b, c, d, e, f, g, h = letters
        tree = ("or", (("and", (("or", (a, ("or", (b, c)))), ("and", (d, e)), f)), g, h))
        book = Book([], [Function("f" + letter, 1, 0, label="always") for letter in LETTERS])
        one = Plan(book, Statement(tree))
        other = one.changed("orders", [(0, 2, 1), (0, 2, 1), (1, 0), (1, 0), (1, 0)])
        self.assertEqual(refused(self, TooMany, lambda: paper_of(one, other)).limit, 20000)
        # Papers are judged all the same.
        self.assertIs(lets_paper(one, other, ("alike", [])), False)
        self.assertIs(lets_paper(one, other, paper_of(one, one)), False)


class TestJudge(unittest.TestCase):
    def setUp(self):
        self.one = plan_of(("and", (("is", SE, 1), ("is", ST, 1))), [(CH, True)])
        self.other = self.one.changed("orders", [(1, 0)])
        self.tree = (SE_TOKEN, (1,), (ST_TOKEN, (1,), None, None), (ST_TOKEN, (0, 2), None, None))
        self.tables = [(), ((0, 0),), ((0, 0), (0, 0))]

    def check(self, tree, told):
        """Whether trees with this one for each table with rows are taken."""
        for trees in [[((), None)] + [(table, tree) for table in self.tables[1:]],
                      [((), None), (self.tables[1], tree), (self.tables[2], self.tree)],
                      [(self.tables[2], tree), (self.tables[1], self.tree), ((), None)]]:
            self.assertIs(lets_paper(self.one, self.other, ("alike", trees)), told, tree)

    def test_trees(self):
        self.check(self.tree, True)
        self.check((ST_TOKEN, (1,), (SE_TOKEN, (1,), None, None), (SE_TOKEN, (1,), None, None)), True)
        self.check((SE_TOKEN, (0, 2), self.tree[3], self.tree[2]), True)
        self.check((SE_TOKEN, (0,), self.tree[2], (SE_TOKEN, (1,), self.tree[2], self.tree[2])), True)
        self.check((SE_TOKEN, (0,), self.tree[2], (SE_TOKEN, (2,), self.tree[2], self.tree[2])), True)
        for token in [("result", 0), ("result", 99), ("folded", "se", ()), ("steady", "nobody", (0, 1))]:
            self.check((token, (1, 2), self.tree, self.tree), True)
            self.check((SE_TOKEN, (1,), (token, (0,), self.tree[2], self.tree[2]), self.tree[3]), True)

    def test_what_is_not_decided(self):
        self.check(None, False)
        self.check((SE_TOKEN, (1,), None, self.tree[3]), False)
        self.check((SE_TOKEN, (1,), self.tree[2], None), False)
        self.check((SE_TOKEN, (0,), self.tree[2], self.tree[2]), False)
        self.check((SE_TOKEN, (1,), (ST_TOKEN, (0,), None, None), self.tree[3]), False)
        self.check(self.tree[2], False)

    def test_values_that_are_not_possible(self):
        again = lambda some: (SE_TOKEN, (1,), (SE_TOKEN, some, self.tree[2], self.tree[2]), self.tree[3])
        for some in [(0,), (1,), (2,), (0, 1), ()]:
            self.check(again(some), False)
        behind = lambda some: (SE_TOKEN, (1,), self.tree[2], (SE_TOKEN, some, self.tree[2], self.tree[2]))
        self.check(behind((0,)), True)
        self.check(behind((2,)), True)
        for some in [(1,), (0, 2), (0, 1), (1, 2), ()]:
            self.check(behind(some), False)

    def test_rows_of_values(self):
        for some in [(), (0, 1, 2), (2, 0), (1, 1), [1], 1, None, (True,), (False, True), (3,), (1, 3), (-1, 1), ("1",), {1: 1}]:
            self.check((SE_TOKEN, some) + self.tree[2:], False)
            self.check((("result", 99), some, self.tree, self.tree), False)
        for value in oddities():
            self.check((SE_TOKEN, value) + self.tree[2:], False)
            self.check((SE_TOKEN, (value,)) + self.tree[2:], False)

    def test_other_forms_of_trees(self):
        for tree in [list(self.tree), self.tree[:3], self.tree + (None,), ([*SE_TOKEN],) + self.tree[1:], (SE_TOKEN, (1,), self.tree[2], []),
                     (SE_TOKEN, (1,), (), self.tree[3]), (SE_TOKEN, (1,), list(self.tree[2]), self.tree[3]), (), [], False, True, 0]:
            self.check(tree, False)
        for value in oddities():
            if value is not None:
                self.check(value, False)
                self.check((value,) + self.tree[1:], False)
                self.check((SE_TOKEN, (1,), self.tree[2], value), False)

    def test_deep_trees(self):
        tree = self.tree
        for number in range(95):
            tree = (("result", number), (2,), self.tree, tree)
        self.check(tree, True)
        deep = None
        for _ in range(100):
            deep = (SE_TOKEN, (1,), None, deep)
        self.check(deep, False)

    def test_tables(self):
        trees = [(table, self.tree if table else None) for table in self.tables]
        good = ("alike", trees)
        self.assertIs(lets_paper(self.one, self.other, good), True)
        self.assertIs(lets_paper(self.one, self.other, ("alike", trees[::-1])), True)
        wrong = [
            trees[1:], trees[:2], [trees[0], trees[2]], trees + trees[:1], trees + trees[2:], [], trees + [None],
            trees + [(((0, 0),) * 3, None)], trees + [(((0, 1),), self.tree)], [(((1, 0),), self.tree)] + trees[::2],
            [([(0, 0)], self.tree)] + trees[::2], [(([0, 0],), self.tree)] + trees[::2], [list(trees[0])] + trees[1:],
            [(list(trees[0][0]), None)] + trees[1:], [((), None, None)] + trees[1:], [((),)] + trees[1:],
            [(((False, 0),), self.tree)] + trees[::2], tuple(trees), {table: tree for table, tree in trees}, None,
        ]
        for value in wrong:
            self.assertIs(lets_paper(self.one, self.other, ("alike", value)), False)
        for value in oddities() + NO_TABLES:
            self.assertIs(lets_paper(self.one, self.other, ("alike", value)), False)
            self.assertIs(lets_paper(self.one, self.other, ("alike", trees + [value])), False)
            self.assertIs(lets_paper(self.one, self.other, ("alike", [value] + trees[1:])), False)
            self.assertIs(lets_paper(self.one, self.other, ("alike", trees[1:] + [(value, self.tree)])),
                          isinstance(value, tuple) and len(value) == 0)

    def test_columns_that_a_call_has(self):
        plan = plan_of(None, [(("al", ("y",)), True)])
        tables = [(), *[((0, y),) for y in range(3)], *[((0, y), (0, z)) for y in range(3) for z in range(3)]]
        self.assertEqual([table for table, _ in paper_of(plan, plan)[1]], tables)
        trees = [(table, None) for table in tables]
        self.assertIs(lets_paper(plan, plan, ("alike", trees)), True)
        self.assertIs(lets_paper(plan, plan, ("alike", trees[:-1] + [(((2, 2), (0, 2)), None)])), False)

    def test_answers(self):
        tree = ("and", (("is", SE, 1), ("is", ST, 1)))
        one = plan_of(tree, [(SE, True), (ST, True)], kept=True, marks=["fold", "fold", "fold", "each"])
        # ST is folded in the filter alone: nothing tells its present value.
        same = one.changed("orders", [(1, 0)])
        folds = [("folded", "se", ()), ("folded", "st", ())]
        paper = (folds[0], (1,), (folds[1], (1,), None, None), (folds[1], (1,), None, None))
        rows = [((), None), (((0, 0),), paper), (((0, 0), (0, 0)), paper)]
        self.assertIs(lets_paper(one, same, ("alike", rows)), True)
        self.assertIs(lets_paper(one, one.marked(3, "fold"), ("alike", rows)), False)
        # Two tokens that can have one value alone, the same, are as good as one.
        other = one.marked(2, "each")
        self.assertIs(are_alike(one, other), False)
        now = ("steady", "se", ())
        more = (folds[0], (1,), (folds[1], (1,), (now, (1,), None, None), None), (folds[1], (1,), None, None))
        self.assertIs(lets_paper(one, other, ("alike", [rows[0], (rows[1][0], more), (rows[2][0], more)])), False)
        both = plan_of(("and", (("is", SE, 1), ("is", SE, 1))), [(SE, True)], kept=True, marks=["fold", "each", "fold"])
        fork = lambda last: (folds[0], (1,), (now, (1,), None, last), (now, (1,), None, None))
        rows = [((), None), (((0, 0),), fork(None)), (((0, 0), (0, 0)), fork(None))]
        self.assertIs(lets_paper(both, both.marked(2, "each"), ("alike", rows)), True)

    def test_no_paper_for_alike_where_there_is_a_difference(self):
        for one, other in [(self.one, self.one.changed("phases", "filters")), (self.one.changed("kept", True),) * 2]:
            told = paper_of(one, one)
            self.assertIs(lets_paper(one, other, told), are_alike(one, other))
        first = plan_of(("is", CH, 1), [(CH, True)])
        second = first.changed("phases", "filters")
        self.assertIs(lets_paper(first, second, paper_of(first, first)), False)
        self.assertIs(lets_paper(first, second, paper_of(second, second)), False)

    def test_unlike(self):
        one = plan_of(("and", (("is", SE, 1), ("is", CH, 1))))
        other = one.changed("orders", [(1, 0)])
        values = {SE_TOKEN: 0, ("result", 0): 0}
        self.assertIs(lets_paper(one, other, ("unlike", ((0, 0),), values)), True)
        self.assertIs(lets_paper(one, other, ("unlike", ((2, 1),), {**values, ("result", 5): 0})), True)
        for value in [("unlike", ((0, 0),)), ("unlike", ((0, 0),), values, None), ["unlike", ((0, 0),), values],
                      ("unlike", (((0, 0),), values)), ("unlike", ((0, 0),), {}), ("unlike", ((0, 0),) * 3, values),
                      ("unlike", (), values), ("alike", ((0, 0),), values), ("unlike", ((0, 0),), {**values, SE_TOKEN: 1})]:
            self.assertIs(lets_paper(one, other, value), False)
        self.assertIs(lets_paper(one, one, ("unlike", ((0, 0),), values)), False)
        self.assertIs(lets_paper(one, other, ("unlike", ((0, 0),), {**values, SE_TOKEN: 0})), True)

    def test_any_value(self):
        trees = paper_of(self.one, self.other)[1]
        for value in oddities() + [("alike",), ("alike", trees, None), ["alike", trees], (trees, "alike"), ("Alike", trees),
                                   trees, "alike", ("alike", None), (b"alike", trees)]:
            self.assertIs(lets_paper(self.one, self.other, value), False)
        for value in oddities():
            self.assertIs(lets_paper(self.one, self.other, (value, trees)), False)
            self.assertIs(lets_paper(self.one, self.other, ("unlike", value, value)), False)


class TestRefused(unittest.TestCase):
    def test_plans(self):
        one = plan_of(("is", SE, 1))
        for call in [paper_of, lambda first, second: lets_paper(first, second, None)]:
            for value in oddities() + [one.statement, MIXED]:
                self.assertIs(refused(self, BadPlan, lambda: call(value, value)).plan, value)
                self.assertIs(refused(self, BadPlan, lambda: call(one, value)).plan, value)
                self.assertIs(refused(self, BadPlan, lambda: call(value, one)).plan, value)
            for other in [plan_of(("is", SE, 2)), one.changed("kept", True), Plan(MIXED.labelled({"ch": "session"}), one.statement)]:
                self.assertIs(refused(self, BadPlan, lambda: call(one, other)).plan, other)
