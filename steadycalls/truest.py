"""Truest labels, and what bars higher ones."""

from steadycalls.cells import are_values, is_state, is_value
from steadycalls.depends import Study, runners_of, value_at, writes_at
from steadycalls.labels import Label, to_label

# What bars labels, in the order in which it is told, with the highest label that it lets.
LETS = {"writes": "changing", "tick": "changing", "table": "statement", "setting": "session"}


def truest(book, name):
    """The truest Label of a function."""
    return _truest(Study(book, name, runners_of(book)))


def _truest(study):
    for word in LETS:
        if _bar_by(study, word) is not None:
            return Label(LETS[word])
    return Label("always")


def truest_book(book):
    """The Book with the truest labels."""
    return book.labelled(_truest_labels(book))


def _truest_labels(book):
    """The dict from the names of all functions to their truest Labels."""
    runners = runners_of(book)
    return {name: _truest(Study(book, name, runners)) for name in book.names()}


def is_right(book, name):
    """Whether the label of a function is not higher than the truest one."""
    return book[name].label <= truest(book, name)


def wrong_names(book):
    """The list of the names of functions whose labels are not right, in order."""
    labels = _truest_labels(book)
    return [name for name in book.names() if labels[name] < book[name].label]


def bars(book, name, label):
    """None if a label is not above the truest one; otherwise what bars it first."""
    study = Study(book, name, runners_of(book))
    asked = to_label(label)
    for word in LETS:
        found = _bar_by(study, word) if _can_bar(word, asked) else None
        if found is not None:
            return found
    return None


def is_bar(book, name, label, value):
    """Whether any value is a tuple, of the forms that `bars` tells, that bars a label."""
    function = book[name]
    asked = to_label(label)
    if not _has_form(book, function, value) or not _can_bar(value[0], asked):
        return False
    if value[0] == "writes":
        return writes_at(book, name, value[1], value[2])
    word, arguments, one, other = value
    if not _alike_but_for(book, word, one, other):
        return False
    return value_at(book, name, arguments, one) != value_at(book, name, arguments, other)


def _can_bar(word, label):
    return Label(LETS[word]) < label


def _bar_by(study, word):
    """None, or the first tuple of this word for the function that is studied."""
    found = study.first_writing() if word == "writes" else study.first_parting(word)
    return None if found is None else (word,) + found


def _has_form(book, function, value):
    """Whether any value is put as what bars a label is, whatever is done in its cases."""
    if not isinstance(value, tuple) or len(value) == 0 or not isinstance(value[0], str):
        return False
    if value[0] not in LETS or len(value) != (3 if value[0] == "writes" else 4):
        return False
    if not isinstance(value[1], tuple) or not are_values(value[1], function.arguments):
        return False
    return all([_is_case(book, case) for case in value[2:]])


def _is_case(book, value):
    if not isinstance(value, tuple) or len(value) != 2:
        return False
    # The ticks of cases are the same integers as values.
    return is_state(book.all_cells(), value[0]) and is_value(value[1])


def _alike_but_for(book, word, one, other):
    """Whether two cases differ in nothing but the tick, or the cells of a kind."""
    if word != "tick" and one[1] != other[1]:
        return False
    same = [one[0][cell.name] == other[0][cell.name] for cell in book.all_cells() if cell.kind != word]
    return all(same)
