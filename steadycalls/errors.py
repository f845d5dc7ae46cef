"""The errors of the package.

Each keeps its argument, which may be any value; so no message shows it.
"""


class StoreError(ValueError):
    """The base class of the errors that tell that something does not fit."""


class BadLabel(StoreError):
    """A value is neither a label nor the name of one."""

    def __init__(self, label):
        StoreError.__init__(self, "no label")
        self.label = label


class BadCell(StoreError):
    """A cell of a book does not fit."""

    def __init__(self, index):
        StoreError.__init__(self, "no cell that fits")
        self.index = index


class BadPart(StoreError):
    """A part of an object does not fit."""

    def __init__(self, part):
        StoreError.__init__(self, "a part does not fit")
        self.part = part


class BadTerm(StoreError):
    """A value is no term."""

    def __init__(self, term):
        StoreError.__init__(self, "no term")
        self.term = term


class BadFunction(StoreError):
    """A function of a book does not fit."""

    def __init__(self, index):
        StoreError.__init__(self, "no function that fits")
        self.index = index


class BadState(StoreError):
    """A state does not fit the cells."""

    def __init__(self, name):
        StoreError.__init__(self, "no state")
        self.name = name


class BadArguments(StoreError):
    """Arguments do not fit a function."""

    def __init__(self, arguments):
        StoreError.__init__(self, "no arguments that fit")
        self.arguments = arguments


class BadTick(StoreError):
    """A value is no tick."""

    def __init__(self, value):
        StoreError.__init__(self, "no tick")
        self.value = value


class BadCall(StoreError):
    """A call of a statement does not fit."""

    def __init__(self, index):
        StoreError.__init__(self, "no call that fits")
        self.index = index


class BadTree(StoreError):
    """A value is no tree."""

    def __init__(self, tree):
        StoreError.__init__(self, "no tree")
        self.tree = tree


class BadOutput(StoreError):
    """An output of a statement does not fit."""

    def __init__(self, index):
        StoreError.__init__(self, "no output")
        self.index = index


class BadOrder(StoreError):
    """An order of a plan does not fit."""

    def __init__(self, index):
        StoreError.__init__(self, "no order that fits")
        self.index = index


class BadMark(StoreError):
    """A mark of a plan does not fit."""

    def __init__(self, index):
        StoreError.__init__(self, "no mark that fits")
        self.index = index


class BadTable(StoreError):
    """A table does not fit."""

    def __init__(self, index):
        StoreError.__init__(self, "no table")
        self.index = index


class BadPlan(StoreError):
    """A plan does not fit."""

    def __init__(self, plan):
        StoreError.__init__(self, "no plan that fits")
        self.plan = plan


class BadToken(StoreError):
    """A token, or what has values for them, does not fit."""

    def __init__(self, token):
        StoreError.__init__(self, "no token that fits")
        self.token = token


class BadText(StoreError):
    """A row of a text does not fit."""

    def __init__(self, index):
        StoreError.__init__(self, "a row has no such form")
        self.index = index


class BadLine(StoreError):
    """A line of a console does not fit."""

    def __init__(self, line):
        StoreError.__init__(self, "no such line")
        self.line = line


class BadChance(StoreError):
    """A chance does not fit."""

    def __init__(self, index):
        StoreError.__init__(self, "no chance that fits")
        self.index = index


class BadMove(StoreError):
    """A move does not fit."""

    def __init__(self, index):
        StoreError.__init__(self, "no move that fits")
        self.index = index


class BadRun(StoreError):
    """A told run does not fit."""

    def __init__(self, index):
        StoreError.__init__(self, "no told run that fits")
        self.index = index


class BadMoment(StoreError):
    """A value is no moment."""

    def __init__(self, moment):
        StoreError.__init__(self, "no moment")
        self.moment = moment


class UnknownName(KeyError):
    """A name is not known."""

    def __init__(self, name):
        KeyError.__init__(self, "unknown name")
        self.name = name


class TooMany(OverflowError):
    """There are more than a limit lets."""

    def __init__(self, limit):
        OverflowError.__init__(self, "too many")
        self.limit = limit


class NothingToUndo(RuntimeError):
    """There is no step that could be taken back."""

    def __init__(self, name):
        RuntimeError.__init__(self, "nothing to undo")
        self.name = name
