"""Small terms that have told values."""

from steadycalls.cells import VALUES
from steadycalls.runner import joined
from steadycalls.terms import term_size

# How many unlike columns there are.
MANY_COLUMNS = 27


def smallest_terms(variable):
    """Smallest terms of one term that can have any value, as an argument or the tick.

    They are told by columns: a column is a tuple of what a term is if that one
    is 0, 1 and 2. Smaller terms stand ahead of greater ones.
    """
    level = {(value, value, value): value for value in VALUES}
    level[VALUES] = variable
    found = {}
    sized = [[]]
    while len(found) < MANY_COLUMNS:
        for column in level:
            found[column] = level[column]
        sized.append(list(level.items()))
        level = {}
        for column, term in _sums(sized, len(sized)) + _choices(sized, len(sized)):
            if column not in found:
                level.setdefault(column, term)
    return found


def _sums(sized, many):
    """The list of (column, term) for two terms joined that have so many parts."""
    return [
        (tuple([joined(word, one, other) for one, other in zip(column, beside)]), (word, term, second))
        for word in ("plus", "less", "same")
        for left in range(1, many - 1)
        for column, term in sized[left]
        for beside, second in sized[many - 1 - left]
    ]


def _choices(sized, many):
    """The list of (column, term) for all `if` that have so many parts."""
    return [
        (
            tuple([two if one != 0 else three for one, two, three in zip(asked, taken, left)]),
            ("if", first, second, third),
        )
        for ahead in range(1, many - 2)
        for behind in range(1, many - 1 - ahead)
        for asked, first in sized[ahead]
        for taken, second in sized[many - 1 - ahead - behind]
        for left, third in sized[behind]
    ]


def column_term(variable, values):
    """A smallest term with told values: a dict from some values of a term to them."""
    return _first_fitting(smallest_terms(variable), values)


def _first_fitting(terms, values):
    for column, term in terms.items():
        if all([column[at] == values[at] for at in values]):
            return term
    return None


def lookup(many, values):
    """A small term of so many arguments with told values: a dict from some tuples of arguments to them."""
    if many == 0:
        return values.get((), 0)
    if many == 1:
        return column_term(("arg", 0), {given[0]: values[given] for given in values})
    return _smaller([Lookup(outer, values).best(VALUES) for outer in (0, 1)])


def _smaller(terms):
    """The first one of the smallest ones of a list of terms."""
    best = terms[0]
    for term in terms:
        if term_size(term) < term_size(best):
            best = term
    return best


class Lookup:
    """Terms of two arguments; the outer one decides in which column the inner one is looked up."""

    def __init__(self, outer, values):
        variable = ("arg", outer)
        self._outer = outer
        self._told = values
        self._inner = smallest_terms(("arg", 1 - outer))
        self._tests = [(variable, (1, 2)), (("less", variable, 2), (0, 1)), (("same", variable, 1), (1,))]

    def best(self, some):
        """A small term that is right if the outer argument has one of some values."""
        terms = []
        column = self._column(some)
        if column is not None:
            terms.append(_first_fitting(self._inner, column))
        for test, holds in self._tests:
            yes = [value for value in some if value in holds]
            no = [value for value in some if value not in holds]
            if yes and no:
                terms.append(("if", test, self.best(yes), self.best(no)))
        return _smaller(terms)

    def _column(self, some):
        """What is told for some values of the outer argument, if one column can tell it; otherwise None."""
        column = {}
        for given in self._told:
            value = self._told[given]
            if given[self._outer] in some and column.setdefault(given[1 - self._outer], value) != value:
                return None
        return column
