"""Parts of lists, for questions about least ones."""


def choices(items, many):
    """The list of the tuples of so many of some items, by their places."""
    rows = [()]
    for _ in range(many):
        rows = [row + (at,) for row in rows for at in range(len(items)) if len(row) == 0 or row[-1] < at]
    return [tuple([items[at] for at in row]) for row in rows]


def has_part(items, parts):
    """Whether one of some parts has nothing that is not among some items."""
    return any([all([item in items for item in part]) for part in parts])
