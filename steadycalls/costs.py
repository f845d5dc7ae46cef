"""What plans cost, and whether one is never dearer than another one."""

from steadycalls.alike import check_plans, difference
from steadycalls.errors import BadMark, BadPlan, BadTable, BadToken
from steadycalls.oracles import Sheet
from steadycalls.plans import Plan
from steadycalls.routes import PASSED, gone_through
from steadycalls.statements import is_row, tables_of
from steadycalls.walks import known_more, possible_values


def cost_of(plan, rows, values):
    """The cost of a plan for a list of rows and values of tokens."""
    _check_plan(plan)
    if not isinstance(rows, (list, tuple)):
        raise BadTable(None)
    for index, row in enumerate(rows):
        if not is_row(row):
            raise BadTable(index)
    if not isinstance(values, dict):
        raise BadToken(None)
    return Bill(plan, rows, values).total


def begin_cost(plan):
    """The cost of a plan for no rows."""
    _check_plan(plan)
    return sum(_prices(plan, "begin"))


def _check_plan(plan):
    if not isinstance(plan, Plan):
        raise BadPlan(plan)


def _prices(plan, mark):
    """The list of what each call costs whenever it is called, 0 if it has another mark."""
    names = [name for name, _ in plan.statement.all_calls()]
    return [plan.book[name].cost if one == mark else 0 for name, one in zip(names, plan.marks)]


class Bill:
    """What a plan costs for some rows, as a dict tells the values that are asked for."""

    def __init__(self, plan, rows, values):
        self._sheet = Sheet(plan, rows)
        self._values = values
        self._atoms = len(plan.statement.atoms())
        self._each = _prices(plan, "each")
        self._memo = _prices(plan, "memo")
        self._memos = {}
        self._changing = 0
        self.total = begin_cost(plan)
        gone_through(plan, len(rows), self)

    def value_of(self, index, at):
        """The value of a call of the filter; that of an output is called, but not asked for."""
        token = self._sheet.token_at(index, at, self._changing)
        if not self._sheet.is_steady(index):
            self._changing += 1
        self.total += self._each[index] + self._memo_price(index, at)
        if index >= self._atoms:
            return None
        if token not in self._values:
            raise BadToken(token)
        return self._values[token]

    def _memo_price(self, index, at):
        """What a call marked `memo` costs: nothing where the same one was called ahead of it."""
        if self._sheet.plan.marks[index] != "memo":
            return 0
        call = self._sheet.call_at(index, at)
        if call in self._memos:
            return 0
        self._memos[call] = True
        return self._memo[index]


def dearer(one, other):
    """None if a plan is never dearer than another one; otherwise a tuple (rows, values) by which it is."""
    unlike = difference(one, other)
    for plan in (one, other):
        if "memo" in plan.marks:
            raise BadMark(plan.marks.index("memo"))
    if one.phases != other.phases or unlike is not None:
        raise BadPlan(other)
    lead = begin_cost(other) - begin_cost(one)
    if lead < 0:
        return ([], {})
    for table in tables_of(one.statement, 1):
        found = _dearer_on(one, other, table)
        if found is not None:
            more, values = found
            rows = table * (lead // more + 1)
            return (rows, _repeated((one, other), rows, values))
    return None


def is_never_dearer(one, other):
    """Whether a plan is never dearer than another one."""
    return dearer(one, other) is None


def with_memos(plan):
    """The Plan in which all calls marked `each` of steady functions are marked `memo`."""
    _check_plan(plan)
    marks = list(plan.marks)
    for index, mark in enumerate(plan.marks):
        if mark == "each" and plan.label_of(index).is_steady():
            marks[index] = "memo"
    return plan.changed("marks", marks)


def _dearer_on(one, other, table):
    """None, or how much more one costs for a row, and values of tokens by which it does."""
    rows = (RowCost(one, table), RowCost(other, table))
    # No guard: plans on one row look at no more than eight calls each, so there are few cases.
    waiting = [{}]
    while waiting:
        known = waiting.pop()
        asked = rows[0].go(known)
        if asked is None:
            asked = rows[1].go(known)
        if asked is not None:
            token, value = asked
            rest = tuple([possible for possible in possible_values(known, token) if possible != value])
            waiting.append(known_more(known, token, rest))
            waiting.append(known_more(known, token, (value,)))
        elif rows[0].cost > rows[1].cost:
            return (rows[0].cost - rows[1].cost, {token: known[token][0] for token in known})
    return None


class RowCost:
    """What a plan without `memo` costs for one row, besides what it costs at the begin."""

    def __init__(self, plan, table):
        self._sheet = Sheet(plan, table)
        self._route = plan.route()
        self._prices = _prices(plan, "each")
        self._outputs = sum(self._prices[len(plan.statement.atoms()):])
        self.cost = 0

    def go(self, known):
        """None where what is known is enough for the cost; otherwise the first tuple (token, value) to decide."""
        self.cost = 0
        changing = 0
        step = self._route.first
        while step >= 0:
            index, value, yes, no = self._route.steps[step]
            token = self._sheet.token_at(index, 0, changing)
            possible = possible_values(known, token)
            if value in possible and len(possible) > 1:
                return (token, value)
            if not self._sheet.is_steady(index):
                changing += 1
            self.cost += self._prices[index]
            step = yes if value in possible else no
        if step == PASSED:
            self.cost += self._outputs
        return None


def _repeated(plans, rows, values):
    """The dict from all tokens that `is` of some plans ask for on equal rows to values, each row as the first one."""
    told = {}
    for plan in plans:
        echo = Echo(plan, rows, values)
        for token in echo.told:
            told[token] = echo.told[token]
    return told


class Echo:
    """Tells each row what is told for it if it stands alone."""

    def __init__(self, plan, rows, values):
        self._sheet = Sheet(plan, rows)
        self._atoms = len(plan.statement.atoms())
        self._values = values
        self._changing = 0
        self._in_row = [0] * len(rows)
        self.told = {}
        gone_through(plan, len(rows), self)

    def value_of(self, index, at):
        """The value of a call of the filter, as in the first row."""
        token = self._sheet.token_at(index, at, self._changing)
        alone = self._sheet.token_at(index, at, self._in_row[at])
        if not self._sheet.is_steady(index):
            self._changing += 1
            self._in_row[at] += 1
        if index < self._atoms:
            self.told[token] = self._values[alone]
            return self.told[token]
        return None
