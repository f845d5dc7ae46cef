"""Functions of a book."""

from steadycalls.cells import is_name, is_whole
from steadycalls.errors import BadPart, BadTerm
from steadycalls.labels import to_label
from steadycalls.terms import MOST_ARGUMENTS, is_term

MOST_WRITES = 3
GREATEST_COST = 99
CHANGING_PARTS = ("result", "writes", "cost")


class Function:
    """A function: what it takes, what it works out and writes, and what it is said to be."""

    def __init__(self, name, arguments, result, *, label="changing", writes=(), cost=1):
        if not is_name(name):
            raise BadPart("name")
        if not is_whole(arguments) or not 0 <= arguments <= MOST_ARGUMENTS:
            raise BadPart("arguments")
        kept_label = to_label(label)
        if not is_term(result, arguments):
            raise BadTerm(result)
        if not _are_writes(writes):
            raise BadPart("writes")
        for _, term in writes:
            if not is_term(term, arguments):
                raise BadTerm(term)
        if not is_whole(cost) or not 0 <= cost <= GREATEST_COST:
            raise BadPart("cost")
        self.name = name
        self.arguments = arguments
        self.result = result
        self.label = kept_label
        self.writes = tuple(writes)
        self.cost = cost

    def __eq__(self, other):
        return (
            isinstance(other, Function)
            and self.name == other.name
            and self.arguments == other.arguments
            and self.result == other.result
            and self.label == other.label
            and self.writes == other.writes
            and self.cost == other.cost
        )

    def labelled(self, label):
        """The Function with another label."""
        return Function(
            self.name, self.arguments, self.result, label=label, writes=self.writes, cost=self.cost
        )

    def changed(self, part, value):
        """The Function with another result, other writes or another cost."""
        if not isinstance(part, str) or part not in CHANGING_PARTS:
            raise BadPart(part)
        return Function(
            self.name,
            self.arguments,
            value if part == "result" else self.result,
            label=self.label,
            writes=value if part == "writes" else self.writes,
            cost=value if part == "cost" else self.cost,
        )

    def parts(self):
        """The list of its terms: the result, then those of the writes."""
        return [self.result] + [term for _, term in self.writes]


def _are_writes(value):
    """Whether any value is a list of writes, whatever stands where their terms should."""
    if not isinstance(value, (list, tuple)) or len(value) > MOST_WRITES:
        return False
    names = []
    for entry in value:
        if not isinstance(entry, tuple) or len(entry) != 2 or not is_name(entry[0]):
            return False
        if entry[0] in names:
            return False
        names.append(entry[0])
    return True
