"""Values of all kinds, for functions that must accept or refuse any value."""


class Equal:
    """An object that says that it is equal to everything."""

    def __eq__(self, other):
        return True

    __hash__ = None


class Touchy:
    """An object that can't be compared, shown or tested."""

    def __eq__(self, other):
        raise RuntimeError("compared")

    def __hash__(self):
        raise RuntimeError("hashed")

    def __repr__(self):
        raise RuntimeError("shown")

    def __bool__(self):
        raise RuntimeError("tested")


def deep(steps):
    """A tuple nested so deep that is put as a term is."""
    term = 0
    for _ in range(steps):
        term = ("plus", term, 0)
    return term


def shared(steps):
    """A tuple with so many levels, each of which has the next one twice."""
    term = 0
    for _ in range(steps):
        term = ("plus", term, term)
    return term


def oddities():
    """A list of values that are no label, name, kind, value, term, state or list of arguments."""
    looped = []
    looped.append(looped)
    return [
        None, True, False, -1, 3, 10 ** 30, "", "A", "a1", "a b", "abcdefghi", "a\n", "\u00e4",
        b"a", b"", (), ((),), ([],), ({},), (None,), (None, None), (1, 2, 3, 4, 5),
        ("nothing",), ("plus",), ("plus", 1), ("plus", 1, 2, 3), ["plus", 1, 2], [[]], looped,
        {"a": []}, {(): ()}, {1: 2, 3: 4}, {None}, frozenset([1]), object(), Equal(), Touchy(),
        (Equal(), Touchy()), (Touchy(), 1, 1), [Touchy()], int, len, lambda: 0, deep(60), shared(60),
        range(3), iter([1, 2]),
    ]
