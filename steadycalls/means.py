"""Mean costs of filters whose parts hold by told chances, and the best orders for them."""

from math import gcd

from steadycalls.cells import is_whole
from steadycalls.errors import BadChance
from steadycalls.plans import Plan

GREATEST_CHANCE = 100

NOTHING = (0, 1)
SURE = (1, 1)


def is_chance(value):
    """Whether any value is a chance."""
    if not isinstance(value, tuple) or len(value) != 2 or not is_whole(value[0]) or not is_whole(value[1]):
        return False
    return 1 <= value[1] <= GREATEST_CHANCE and 0 <= value[0] <= value[1]


def mean_cost(book, statement, orders, chances):
    """The mean of what one row costs, in lowest terms."""
    plan = Plan(book, statement, orders=orders)
    _check_chances(statement, chances)
    look = Look(statement, _prices(book, statement.atoms()), chances, plan.orders)
    outputs = sum(_prices(book, [call for call, _ in statement.outputs]))
    return _plus(look.mean, _times(look.holds, (outputs, 1)))


def passing(statement, chances):
    """The chance that a row passes, in lowest terms."""
    _check_chances(statement, chances)
    return Look(statement, [0] * len(statement.atoms()), chances, None).holds


def least_orders(book, statement, chances):
    """Orders with the least mean cost; equal parts are looked at as they are written."""
    statement.fit(book)
    _check_chances(statement, chances)
    return tuple(Look(statement, _prices(book, statement.atoms()), chances, None).orders)


def _check_chances(statement, chances):
    if not isinstance(chances, (list, tuple)) or len(chances) != len(statement.atoms()):
        raise BadChance(None)
    for index, chance in enumerate(chances):
        if not is_chance(chance):
            raise BadChance(index)


def _prices(book, calls):
    """The list of what some calls cost."""
    return [book[name].cost for name, _ in calls]


class Look:
    """The mean look of a row at a filter: what it costs, and the chance that the row passes.

    Fractions are tuples in lowest terms. Parts are looked at in told orders, or,
    without these, in the best ones, which are kept.
    """

    def __init__(self, statement, prices, chances, told):
        self._prices = prices
        self._chances = chances
        self._told = told
        self._atoms = 0
        self.orders = []
        self.mean, self.holds = NOTHING, SURE
        if statement.condition is not None:
            self.mean, self.holds = self._through(statement.condition)

    def _through(self, tree):
        """The tuple (mean cost, chance that it is true) of a tree."""
        word = tree[0]
        if word == "is":
            place = self._atoms
            self._atoms += 1
            above, below = self._chances[place]
            return ((self._prices[place], 1), _lowest(above, below))
        if word == "not":
            mean, holds = self._through(tree[1])
            return (mean, _rest(holds))
        place = len(self.orders)
        self.orders.append(())
        means, ends = self._parts(tree)
        self.orders[place] = _least_order(means, ends) if self._told is None else self._told[place]
        mean, on = NOTHING, SURE
        for index in self.orders[place]:
            mean = _plus(mean, _times(on, means[index]))
            on = _times(on, _rest(ends[index]))
        return (mean, on if word == "and" else _rest(on))

    def _parts(self, tree):
        """The lists of the mean costs of the parts of an `and` or `or`, and of the chances that they end it."""
        looks = [self._through(part) for part in tree[1]]
        ends = [_rest(holds) if tree[0] == "and" else holds for _, holds in looks]
        return ([mean for mean, _ in looks], ends)


def _least_order(means, ends):
    """The tuple of the indexes of parts by ascending cost over the chance that they end the look."""
    order = []
    for index in range(len(means)):
        if ends[index] != NOTHING:
            place = len(order)
            while place > 0 and _is_ahead(means, ends, index, order[place - 1]):
                place -= 1
            order.insert(place, index)
    return tuple(order + [index for index in range(len(means)) if ends[index] == NOTHING])


def _is_ahead(means, ends, index, other):
    """Whether the cost of a part over its chance is less than that of another one."""
    one = _times(means[index], ends[other])
    beside = _times(means[other], ends[index])
    return one[0] * beside[1] < beside[0] * one[1]


def _lowest(above, below):
    """A fraction in lowest terms."""
    common = gcd(above, below)
    return (above // common, below // common)


def _plus(one, other):
    return _lowest(one[0] * other[1] + other[0] * one[1], one[1] * other[1])


def _times(one, other):
    return _lowest(one[0] * other[0], one[1] * other[1])


def _rest(chance):
    """One less a fraction."""
    return (chance[1] - chance[0], chance[1])
