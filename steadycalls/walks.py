"""Plans on their way through a table, as far as what is known of tokens lets them."""

from steadycalls.cells import VALUES
from steadycalls.routes import PASSED


def possible_values(known, token):
    """The tuple of the values that a token can have, by what is known of some."""
    return known.get(token, VALUES)


def known_more(known, token, possible):
    """What is known, and that a token can have some values alone."""
    more = {other: known[other] for other in known}
    more[token] = possible
    return more


class Walk:
    """One plan on its way.

    What is known is a dict from tokens to the ascending tuples of the values
    that they can have; from one step to the next, more may be known, not less.
    Answers are told in tokens.
    """

    def __init__(self, sheet):
        self._sheet = sheet
        self._at = 0
        self._step = sheet.plan.route().first
        self._passing = []
        self.made = []
        self.answers = []

    def copy(self):
        """A Walk that goes on by itself from here."""
        twin = Walk(self._sheet)
        twin._at = self._at
        twin._step = self._step
        twin._passing = list(self._passing)
        twin.made = list(self.made)
        twin.answers = list(self.answers)
        return twin

    def go(self, known):
        """Go on; None at the end, or the first tuple (token, value) that is not decided."""
        steps = self._sheet.plan.route().steps
        while self._at < self._sheet.many:
            if self._step < 0:
                self._leave_row()
            else:
                index, value, yes, no = steps[self._step]
                token = self._sheet.token_at(index, self._at, len(self.made))
                possible = possible_values(known, token)
                if value in possible and len(possible) > 1:
                    return (token, value)
                if not self._sheet.is_steady(index):
                    self.made.append(self._sheet.call_at(index, self._at))
                self._step = yes if value in possible else no
        return None

    def _leave_row(self):
        """Go from the end of the filter to the next row; outputs are put out where they are due."""
        plan = self._sheet.plan
        if self._step == PASSED:
            self._passing.append(self._at)
        self._step = plan.route().first
        self._at += 1
        if plan.phases == "rows" or self._at == self._sheet.many:
            for at in self._passing:
                self._put_out(at)
            self._passing = []

    def _put_out(self, at):
        """Call the outputs of a row that passes."""
        plan = self._sheet.plan
        index = len(plan.statement.atoms())
        tokens = []
        for _, shown in plan.statement.outputs:
            token = self._sheet.token_at(index, at, len(self.made))
            if not self._sheet.is_steady(index):
                self.made.append(self._sheet.call_at(index, at))
            if shown:
                tokens.append(token)
            index += 1
        self.answers.append(tuple(tokens))


def unlike_values(one, other, known):
    """None, or values of the known tokens, and of two more at most, by which two walks are unlike."""
    pairs = []
    if one.made == other.made and len(one.answers) == len(other.answers):
        pairs = _unlike_answers(one, other, known)
        if len(pairs) == 0:
            return None
    values = {token: known[token][0] for token in known}
    for token, value in pairs:
        values[token] = value
    return values


def _unlike_answers(one, other, known):
    """The list of (token, value) for two tokens by which answers are unlike at some place, if there are any."""
    for tokens, others in zip(one.answers, other.answers):
        for token, beside in zip(tokens, others):
            if token != beside:
                pair = _unlike_pair(possible_values(known, token), possible_values(known, beside))
                if pair is not None:
                    return [(token, pair[0]), (beside, pair[1])]
    return []


def _unlike_pair(possible, others):
    """None, or two unlike values of which each one is possible."""
    for value in possible:
        for other in others:
            if value != other:
                return (value, other)
    return None
