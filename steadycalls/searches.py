"""All cases of the values of tokens of two plans on one table."""

from steadycalls.errors import BadToken, TooMany
from steadycalls.oracles import Hearing, Oracle, Sheet
from steadycalls.walks import Walk, known_more, possible_values, unlike_values

MOST_CASES = 20000


class Search:
    """Goes through all cases in which two plans look at unlike things.

    `tree` is the tree of a paper, if the plans are alike on the table; otherwise
    `unlike` has values of some tokens by which they are not.
    """

    def __init__(self, one, other, table):
        self._cases = 0
        self.unlike = None
        self.tree = self._fork(Walk(Sheet(one, table)), Walk(Sheet(other, table)), {})

    def _fork(self, one, other, known):
        """The tree behind what is known; None, too, as soon as the plans are unlike."""
        asked = one.go(known)
        if asked is None:
            asked = other.go(known)
            if asked is None or other.made != one.made[:len(other.made)]:
                self._count()
                self.unlike = unlike_values(one, other, known)
                return None
        token, value = asked
        rest = tuple([possible for possible in possible_values(known, token) if possible != value])
        first = self._fork(one.copy(), other.copy(), known_more(known, token, (value,)))
        if self.unlike is not None:
            return None
        second = self._fork(one, other, known_more(known, token, rest))
        return (token, (value,), first, second)

    def _count(self):
        self._cases += 1
        if self._cases > MOST_CASES:
            raise TooMany(MOST_CASES)


def completed(one, other, table, values):
    """Values of tokens, and with them 0 for all others for which two plans ask on a table."""
    full = {token: values[token] for token in values}
    for plan in (one, other):
        while True:
            try:
                Hearing(Oracle(full), plan, table)
                break
            except BadToken as e:
                full[e.token] = 0
    return full
