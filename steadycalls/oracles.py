"""Tokens: what stands for values that no body has worked out."""

from steadycalls.cells import are_values, is_name, is_value, is_whole
from steadycalls.errors import BadCall, BadPart, BadToken
from steadycalls.plans import Plan
from steadycalls.routes import gone_through
from steadycalls.statements import check_table, values_of
from steadycalls.terms import MOST_ARGUMENTS


def is_token(value):
    """Whether any value is a token by its form."""
    if not isinstance(value, tuple) or len(value) < 2 or not isinstance(value[0], str):
        return False
    if value[0] == "result":
        return len(value) == 2 and is_whole(value[1]) and value[1] >= 0
    if value[0] not in ("steady", "folded") or len(value) != 3 or not is_name(value[1]):
        return False
    given = value[2]
    return isinstance(given, tuple) and len(given) <= MOST_ARGUMENTS and are_values(given, len(given))


def token_of(plan, index, values):
    """The token of a steady call of a plan, by its mark."""
    if not isinstance(plan, Plan):
        raise BadPart("plan")
    if not is_whole(index) or not 0 <= index < len(plan.statement) or not plan.label_of(index).is_steady():
        raise BadCall(index)
    name = plan.statement.all_calls()[index][0]
    if not isinstance(values, tuple) or not are_values(values, plan.book[name].arguments):
        raise BadPart("values")
    return (_word_of(plan, index), name, values)


def _word_of(plan, index):
    """Which word begins the token of a steady call."""
    label = plan.label_of(index).name
    # What cannot have changed since it was planned is one value.
    if label == "always" or label == "session" and not plan.kept:
        return "steady"
    return "folded" if plan.marks[index] == "fold" else "steady"


class Sheet:
    """The calls of a plan on a table, and the tokens of those that are steady."""

    def __init__(self, plan, table):
        calls = plan.statement.all_calls()
        self.plan = plan
        self.many = len(table)
        self._made = [[(call[0], values_of(call, row)) for call in calls] for row in table]
        self._words = [
            _word_of(plan, index) if plan.label_of(index).is_steady() else None for index in range(len(calls))
        ]
        self._tokens = [[(word,) + made for word, made in zip(self._words, row)] for row in self._made]

    def is_steady(self, index):
        """Whether a call is one of a steady function."""
        return self._words[index] is not None

    def call_at(self, index, at):
        """The tuple (name, values) of a call in a row."""
        return self._made[at][index]

    def token_at(self, index, at, changing):
        """The token of a call in a row, ahead of which so many changing calls are made."""
        return self._tokens[at][index] if self._words[index] is not None else ("result", changing)


class Hearing:
    """A plan on a table as an oracle tells values: what is called, and what is asked for and told."""

    def __init__(self, oracle, plan, table):
        self._oracle = oracle
        self._sheet = Sheet(plan, table)
        self.made = []
        self.asked = {}
        self.answers = gone_through(plan, len(table), self)

    def value_of(self, index, at):
        """The value of a call that the plan takes."""
        token = self._sheet.token_at(index, at, len(self.made))
        if not self._sheet.is_steady(index):
            self.made.append(self._sheet.call_at(index, at))
        self.asked[token] = self._oracle[token]
        return self.asked[token]


class Oracle:
    """Values of tokens."""

    def __init__(self, values):
        if not isinstance(values, dict):
            raise BadToken(None)
        for token in values:
            if not is_token(token) or not is_value(values[token]):
                raise BadToken(token)
        self._known = {token: values[token] for token in values}

    def __eq__(self, other):
        return isinstance(other, Oracle) and self._known == other._known

    def __len__(self):
        return len(self._known)

    def __contains__(self, x):
        return is_token(x) and x in self._known

    def __getitem__(self, at):
        if not is_token(at) or at not in self._known:
            raise BadToken(at)
        return self._known[at]

    def __iter__(self):
        raise TypeError("an oracle is not gone through")

    def judge(self, plan, table):
        """The tuple (changing calls, answers) of a plan on a table."""
        if not isinstance(plan, Plan):
            raise BadPart("plan")
        check_table(table)
        hearing = Hearing(self, plan, table)
        return (hearing.made, hearing.answers)
