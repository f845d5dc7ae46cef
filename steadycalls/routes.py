"""In which way the rows of a table go through a filter, its parts in their orders."""

# Where a row is behind the last step of a filter.
PASSED = -1
FAILED = -2


class Route:
    """The steps of a filter.

    Each step is a tuple (index, value, yes, no): whether the call with this index
    has this value is looked at, and with which step the row goes on if it has,
    or has not.
    """

    def __init__(self, condition, orders):
        self.steps = []
        self._orders = orders
        self._atoms = 0
        self._joints = 0
        self.first = PASSED
        if condition is not None:
            self.first = self._linked(self._ordered(condition), PASSED, FAILED)

    def _ordered(self, tree):
        """A tree with its parts in their orders, and indexes in the place of calls."""
        word = tree[0]
        if word == "is":
            self._atoms += 1
            return (word, self._atoms - 1, tree[2])
        if word == "not":
            return (word, self._ordered(tree[1]))
        order = self._orders[self._joints]
        self._joints += 1
        parts = [self._ordered(part) for part in tree[1]]
        return (word, tuple([parts[place] for place in order]))

    def _linked(self, tree, yes, no):
        """The place of the first step of an ordered tree, the steps of which are put behind others."""
        word = tree[0]
        if word == "is":
            self.steps.append((tree[1], tree[2], yes, no))
            return len(self.steps) - 1
        if word == "not":
            return self._linked(tree[1], no, yes)
        first = yes if word == "and" else no
        for part in tree[1][::-1]:
            if word == "and":
                first = self._linked(part, first, no)
            else:
                first = self._linked(part, yes, first)
        return first

    def lets_pass(self, at, teller):
        """Whether a row passes, by the values that a teller tells of the calls that it needs."""
        step = self.first
        while step >= 0:
            index, value, yes, no = self.steps[step]
            step = yes if teller.value_of(index, at) == value else no
        return step == PASSED


def gone_through(plan, many, teller):
    """The answers of a plan on so many rows, by the values that a teller tells."""
    route = plan.route()
    if plan.phases == "rows":
        return [_shown(plan, at, teller) for at in range(many) if route.lets_pass(at, teller)]
    passing = [at for at in range(many) if route.lets_pass(at, teller)]
    return [_shown(plan, at, teller) for at in passing]


def _shown(plan, at, teller):
    """The tuple of the values of the outputs that are shown; the others are called, too."""
    index = len(plan.statement.atoms())
    values = []
    for _, shown in plan.statement.outputs:
        if plan.marks[index] != "gone":
            value = teller.value_of(index, at)
            if shown:
                values.append(value)
        index += 1
    return tuple(values)
