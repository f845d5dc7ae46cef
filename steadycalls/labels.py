"""Labels of functions: how steady their values are."""

from steadycalls.errors import BadLabel

LABELS = ("always", "session", "statement", "changing")


class Label:
    """A label; a lower one promises less."""

    def __init__(self, name):
        # Only strings are compared: another value may answer == in its own way.
        if not isinstance(name, str) or name not in LABELS:
            raise BadLabel(name)
        self.name = name
        self._height = len(LABELS) - LABELS.index(name)

    def __eq__(self, other):
        return isinstance(other, Label) and self._height == other._height

    def __lt__(self, other):
        if not isinstance(other, Label):
            return NotImplemented
        return self._height < other._height

    def __le__(self, other):
        if not isinstance(other, Label):
            return NotImplemented
        return self._height <= other._height

    def is_steady(self):
        """Whether the label promises anything at all."""
        return self.name != "changing"

    def higher(self):
        """The list of the labels above this one, from the next one up."""
        above = LABELS[:LABELS.index(self.name)]
        return [Label(name) for name in above[::-1]]


def to_label(value):
    """The Label that a Label or the name of one tells; raises BadLabel for any other value."""
    if isinstance(value, Label):
        return value
    return Label(value)


def least(labels):
    """The lowest one of a list of Labels; `always` for an empty one."""
    lowest = Label("always")
    for label in labels:
        if label < lowest:
            lowest = label
    return lowest
