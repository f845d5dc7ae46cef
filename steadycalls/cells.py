"""Values, names, cells and their states."""

from steadycalls.errors import BadPart, BadState

KINDS = ("frozen", "setting", "table")
VALUES = (0, 1, 2)
LONGEST_NAME = 8


def is_whole(value):
    """Whether any value is an integer; True and False are none."""
    return isinstance(value, int) and not isinstance(value, bool)


def is_value(value):
    """Whether any value is one that cells and arguments can have."""
    return is_whole(value) and 0 <= value < len(VALUES)


def is_name(value):
    """Whether any value is a name of a cell or a function by its form."""
    if not isinstance(value, str) or not 1 <= len(value) <= LONGEST_NAME:
        return False
    return all(["a" <= letter <= "z" for letter in value])


def are_values(values, many):
    """Whether a list or tuple has just so many items, each of them a value."""
    return len(values) == many and all([is_value(value) for value in values])


class Cell:
    """A cell of a store: its name, and how it may change."""

    def __init__(self, name, kind):
        if not is_name(name):
            raise BadPart("name")
        if not isinstance(kind, str) or kind not in KINDS:
            raise BadPart("kind")
        self.name = name
        self.kind = kind

    def __eq__(self, other):
        return isinstance(other, Cell) and self.name == other.name and self.kind == other.kind


def states_of(cells):
    """Generate all states of a list of Cells, from all 0 up; the last cell goes round first."""
    names = [cell.name for cell in cells]
    many = 1
    for _ in names:
        many = many * len(VALUES)
    for number in range(many):
        yield _state_numbered(names, number)


def _state_numbered(names, number):
    """The state whose values are the figures of a number to the base of three."""
    state = {name: 0 for name in names}
    rest = number
    for name in names[::-1]:
        state[name] = rest % len(VALUES)
        rest = rest // len(VALUES)
    return state


def check_state(cells, state):
    """Raise BadState for any value that is no state of a list of Cells."""
    if not isinstance(state, dict) or len(state) != len(cells):
        raise BadState(None)
    for cell in cells:
        if cell.name not in state or not is_value(state[cell.name]):
            raise BadState(cell.name)


def is_state(cells, value):
    """Whether any value is a state of a list of Cells."""
    try:
        check_state(cells, value)
    except BadState:
        return False
    return True
