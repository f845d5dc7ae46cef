"""Points [11] and [19]: chances, mean costs, and orders with the least ones."""

import fractions
import itertools
import random
import unittest

import plain
from oddities import oddities
from refusals import refused
from steadycalls.books import Book
from steadycalls.errors import BadCall, BadChance, BadOrder
from steadycalls.functions import Function
from steadycalls.means import is_chance, least_orders, mean_cost, passing
from steadycalls.plans import Plan, orders_of
from steadycalls.statements import Statement

BOOK = Book([], [Function("f" + letter, 0, 0, label="always", cost=cost)
                 for letter, cost in zip("abcdefgh", [1, 2, 3, 5, 8, 0, 99, 1])])
IS = {letter: ("is", ("f" + letter, ()), 0) for letter in "abcdefgh"}
HALF = (1, 2)


def fraction(told):
    return fractions.Fraction(*told)


def lowest(value):
    return (value.numerator, value.denominator)


def plain_mean(statement, book, orders, chances):
    """The mean cost and the chance to pass: all ways in which each `is` holds or not are gone through."""
    plan = Plan(book, statement, orders=orders)
    total = through = fractions.Fraction(0)
    atoms = statement.atoms()
    for holds in itertools.product([True, False], repeat=len(atoms)):
        chance = fractions.Fraction(1)
        for one, told in zip(holds, chances):
            chance *= fraction(told) if one else 1 - fraction(told)
        looked = []
        many = plain.Filter(plan)
        # A value that is equal to all or to none stands for an `is` that holds or not.
        passed = many.holds(many.tree, lambda index: looked.append(index) or Held(holds[index]))
        cost = sum(book[atoms[index][0]].cost for index in looked)
        if passed:
            cost += sum(book[name].cost for (name, _), _ in statement.outputs)
            through += chance
        total += chance * cost
    return lowest(total), lowest(through)


class Held:
    def __init__(self, holds):
        self.is_held = holds

    def __eq__(self, value):
        return self.is_held


class TestChances(unittest.TestCase):
    def test_chances(self):
        for value in [(0, 1), (1, 1), (0, 100), (100, 100), (1, 2), (2, 4), (99, 100)]:
            self.assertIs(is_chance(value=value), True)

    def test_no_chances(self):
        for value in oddities() + [(1, 0), (0, 0), (-1, 2), (3, 2), (1, 101), (101, 101), (1,), (1, 2, 3), [1, 2], "12",
                                   (True, 1), (1, True), (None, 1), (1, None), ("1", 2), 0, 1, (0, -1), (-2, -1)]:
            self.assertIs(is_chance(value), False)


class TestMeanCost(unittest.TestCase):
    def test_and(self):
        statement = Statement(("and", (IS["a"], IS["b"], IS["c"])))
        chances = [HALF, (1, 3), (1, 4)]
        self.assertEqual(mean_cost(BOOK, statement, None, chances), (5, 2))
        self.assertEqual(mean_cost(chances=tuple(chances), orders=[(2, 1, 0)], statement=statement, book=BOOK), (43, 12))
        self.assertEqual(passing(chances=chances, statement=statement), (1, 24))

    def test_or(self):
        statement = Statement(("or", (IS["a"], IS["b"])), [(("fd", ()), False), (("fa", ()), True)])
        # 1 + 1/2 * 2 + 3/4 * 6
        self.assertEqual(mean_cost(BOOK, statement, None, [HALF, HALF]), (13, 2))
        self.assertEqual(mean_cost(BOOK, statement, [(1, 0)], [HALF, HALF]), (7, 1))
        self.assertEqual(passing(statement, [HALF, HALF]), (3, 4))

    def test_no_filter(self):
        statement = Statement(None, [(("fc", ()), True), (("fc", ()), False)])
        self.assertEqual([mean_cost(BOOK, statement, None, []), mean_cost(BOOK, statement, [], ())], [(6, 1), (6, 1)])
        self.assertEqual([passing(statement, []), least_orders(BOOK, statement, [])], [(1, 1), ()])
        self.assertEqual(mean_cost(BOOK, Statement(None), None, []), (0, 1))

    def test_lowest_terms(self):
        for told, least in [((0, 7), (0, 1)), ((7, 7), (1, 1)), ((50, 100), (1, 2)), ((34, 51), (2, 3))]:
            self.assertEqual(passing(Statement(IS["a"]), [told]), least)
            told_not = passing(Statement(("not", IS["a"])), [told])
            self.assertEqual(told_not, (least[1] - least[0], least[1]))
        statement = Statement(IS["b"], [(("fb", ()), True)])
        self.assertEqual([mean_cost(BOOK, statement, None, [told]) for told in [(0, 9), (9, 9), (4, 8)]], [(2, 1), (4, 1), (3, 1)])
        self.assertEqual(mean_cost(BOOK, Statement(IS["f"]), None, [(1, 3)]), (0, 1))

    def test_chances_of_0_and_1(self):
        statement = Statement(("and", (IS["a"], ("or", (IS["b"], IS["c"])), IS["d"])))
        self.assertEqual(mean_cost(BOOK, statement, None, [(0, 5)] + [HALF] * 3), (1, 1))
        self.assertEqual(mean_cost(BOOK, statement, None, [(5, 5), (1, 1), HALF, (1, 1)]), (8, 1))
        self.assertEqual(mean_cost(BOOK, statement, None, [(5, 5), (0, 1), (0, 1), (1, 1)]), (6, 1))

    def test_eight_calls(self):
        statement = Statement(("or", tuple(IS[letter] for letter in "abcdefgh")))
        chances = [(97, 98), (1, 97), (96, 97), (88, 89), (1, 89), (82, 83), (78, 79), (1, 73)]
        orders = [(7, 6, 5, 4, 3, 2, 1, 0)]
        self.assertEqual((mean_cost(BOOK, statement, orders, chances), passing(statement, chances)),
                         plain_mean(statement, BOOK, orders, chances))

    def test_as_the_document_says(self):
        for seed in range(250):
            chance = random.Random(seed)
            statement = plain.some_statement(chance, BOOK, 6)
            plan = plain.some_plan(chance, BOOK, statement)
            chances = some_chances(chance, statement)
            told = plain_mean(statement, BOOK, plan.orders, chances)
            self.assertEqual((mean_cost(BOOK, statement, plan.orders, chances), passing(statement, chances)), told)


def some_chances(chance, statement, parts=(0, 1, 1, 2, 3, 4, 6)):
    below = [chance.randrange(1, 101) if chance.random() < 0.3 else 6 for _ in statement.atoms()]
    return [(chance.choice(parts) if one == 6 else chance.randrange(one + 1), one) for one in below]


def plain_orders(statement, book, chances):
    """The order of [19], told part by part, each `and` and `or` ahead of what is within it."""
    left = list(chances)

    def through(tree):
        """The tuple (mean cost, chance, orders)."""
        if tree[0] == "is":
            return fractions.Fraction(book[tree[1][0]].cost), fraction(left.pop(0)), []
        if tree[0] == "not":
            mean, holds, orders = through(tree[1])
            return mean, 1 - holds, orders
        parts = [through(part) for part in tree[1]]
        ends = [1 - holds if tree[0] == "and" else holds for _, holds, _ in parts]
        able = [at for at in range(len(parts)) if ends[at] > 0]
        order = sorted(able, key=lambda at: parts[at][0] / ends[at]) + [at for at in range(len(parts)) if ends[at] == 0]
        mean, on = fractions.Fraction(0), fractions.Fraction(1)
        for at in order:
            mean += on * parts[at][0]
            on *= 1 - ends[at]
        return mean, on if tree[0] == "and" else 1 - on, sum([orders for _, _, orders in parts], [tuple(order)])

    return () if statement.condition is None else tuple(through(statement.condition)[2])


class TestLeastOrders(unittest.TestCase):
    def test_and_by_cost_over_the_chance_to_be_false(self):
        statement = Statement(("and", (IS["a"], IS["b"], IS["c"])))
        self.assertEqual(least_orders(BOOK, statement, [HALF, HALF, HALF]), ((0, 1, 2),))
        self.assertEqual(least_orders(BOOK, statement, [(9, 10), HALF, (1, 10)]), ((2, 1, 0),))
        self.assertEqual(least_orders(chances=((1, 2), (0, 3), (1, 4)), statement=statement, book=BOOK), ((0, 1, 2),))

    def test_or_by_cost_over_the_chance_to_be_true(self):
        statement = Statement(("or", (IS["a"], IS["b"], IS["c"])))
        self.assertEqual(least_orders(BOOK, statement, [(9, 10), HALF, (1, 10)]), ((0, 1, 2),))
        self.assertEqual(least_orders(BOOK, statement, [(1, 10), HALF, (9, 10)]), ((2, 1, 0),))

    def test_equal_parts_stay(self):
        # 1 over 1/2, 2 over 1, 1 over 1/2.
        statement = Statement(("or", (IS["a"], IS["b"], IS["h"])))
        self.assertEqual(least_orders(BOOK, statement, [HALF, (3, 3), HALF]), ((0, 1, 2),))
        self.assertEqual(least_orders(BOOK, statement, [(2, 4), (2, 3), (50, 100)]), ((0, 2, 1),))
        nothing = Statement(("and", (IS["b"], IS["f"], IS["a"], IS["f"])))
        self.assertEqual(least_orders(BOOK, nothing, [HALF, (99, 100), HALF, HALF]), ((1, 3, 2, 0),))

    def test_parts_that_cannot_end_the_look_come_last(self):
        statement = Statement(("and", (IS["g"], IS["f"], IS["a"], IS["e"])))
        self.assertEqual(least_orders(BOOK, statement, [(7, 7), (1, 1), (99, 100), (0, 1)]), ((3, 2, 0, 1),))
        self.assertEqual(least_orders(BOOK, statement, [(1, 1)] * 4), ((0, 1, 2, 3),))
        either = Statement(("or", (IS["f"], IS["g"], ("not", IS["a"]))))
        self.assertEqual(least_orders(BOOK, either, [(0, 3), (1, 100), (1, 1)]), ((1, 0, 2),))

    def test_from_within(self):
        # Within: 1 + 1/2 * 3 = 5/2, true by 1/4; over 3/4 it is 10/3, ahead of 2 over 1/2.
        tree = ("and", (IS["b"], ("and", (IS["c"], IS["a"]))))
        statement = Statement(tree)
        self.assertEqual(least_orders(BOOK, statement, [HALF] * 3), ((1, 0), (1, 0)))
        self.assertEqual(least_orders(BOOK, statement, [HALF, HALF, (9, 10)]), ((0, 1), (0, 1)))
        turned = Statement(("or", (("not", tree), IS["a"])))
        self.assertEqual(least_orders(BOOK, turned, [HALF] * 4), ((1, 0), (1, 0), (1, 0)))

    def test_least_of_all_orders(self):
        orders_looked_at = 0
        for seed in range(250):
            chance = random.Random(seed)
            statement = plain.some_statement(chance, BOOK, 6)
            chances = some_chances(chance, statement)
            told = least_orders(BOOK, statement, chances)
            self.assertEqual(told, plain_orders(statement, BOOK, chances))
            least = fraction(mean_cost(BOOK, statement, told, chances))
            for orders in list(orders_of(statement))[:200]:
                orders_looked_at += 1
                self.assertLessEqual(least, fraction(mean_cost(BOOK, statement, orders, chances)))
        self.assertGreater(orders_looked_at, 1000)

    def test_eight_parts(self):
        statement = Statement(("and", tuple(IS[letter] for letter in "gedcbahf")))
        self.assertEqual(least_orders(BOOK, statement, [HALF] * 8), ((7, 5, 6, 4, 3, 2, 1, 0),))
        self.assertEqual(least_orders(BOOK, Statement(("or", (IS["a"],))), [(0, 1)]), ((0,),))


class TestRefused(unittest.TestCase):
    def setUp(self):
        self.statement = Statement(("and", (IS["a"], IS["b"])))

    def test_calls(self):
        wrong = Statement(("and", (IS["a"], ("is", ("fa", (0,)), 0))))
        self.assertEqual(refused(self, BadCall, lambda: mean_cost(BOOK, wrong, 5, None)).index, 1)
        self.assertEqual(refused(self, BadCall, lambda: least_orders(BOOK, wrong, None)).index, 1)

    def test_orders(self):
        for value in oddities() + [[], [(0, 1), (0,)], ((0, 1),) * 2]:
            if value is not None:
                told = refused(self, BadOrder, lambda: mean_cost(BOOK, self.statement, value, None)).index
                self.assertEqual(told, 0 if isinstance(value, (list, tuple)) and len(value) == 1 else None)
        for value in oddities() + [[0, 1], (0, 0), (0, 2), (0,), (0, 1, 2), (False, True)]:
            self.assertEqual(refused(self, BadOrder, lambda: mean_cost(BOOK, self.statement, [value], None)).index, 0)

    def test_chances(self):
        calls = [lambda chances: mean_cost(BOOK, self.statement, None, chances), lambda chances: passing(self.statement, chances),
                 lambda chances: least_orders(BOOK, self.statement, chances)]
        for call in calls:
            for value in oddities() + [[], [HALF], [HALF] * 3, {HALF: HALF, (1, 3): HALF}]:
                if not isinstance(value, (list, tuple)) or len(value) != 2:
                    self.assertIsNone(refused(self, BadChance, lambda: call(value)).index)
            for value in oddities() + [(1, 0), (2, 1), (1, 101), [1, 2], (True, 1), (0, True)]:
                self.assertEqual(refused(self, BadChance, lambda: call([HALF, value])).index, 1)
                self.assertEqual(refused(self, BadChance, lambda: call([value, None])).index, 0)
