"""A console: lines of words that ask a session, or change it."""

from steadycalls.cells import KINDS, is_name
from steadycalls.errors import BadLine
from steadycalls.labels import LABELS
from steadycalls.runs import run_alone
from steadycalls.sessions import Session
from steadycalls.texts import write_book
from steadycalls.truest import truest, wrong_names

# What stands behind the first word of a line.
FORMS = {
    "book": (),
    "labels": (),
    "truest": ("name",),
    "wrong": (),
    "relabel": ("name", "label"),
    "kind": ("name", "kind"),
    "drop": ("name",),
    "raise": (),
    "undo": (),
}
ARGUMENTS = ("0", "1", "2")


class Console:
    """Answers lines; it changes with its session."""

    def __init__(self, book):
        self.session = Session(book)

    def answer(self, line):
        """The text that a line gets."""
        if not isinstance(line, str):
            raise BadLine(line)
        words = line.split(" ")
        if words[0] == "run":
            if len(words) < 2 or not is_name(words[1]) or not all([word in ARGUMENTS for word in words[2:]]):
                raise BadLine(line)
            return self._run(words[1], [ARGUMENTS.index(word) for word in words[2:]])
        if not _has_form(words):
            raise BadLine(line)
        if words[0] in ("book", "labels", "truest", "wrong"):
            return self._words_of(words)
        self._change(words)
        return "ok"

    def _run(self, name, arguments):
        """The value of a function on the state of all 0, and the values of the cells behind it."""
        book = self.session.current()
        blank = {cell.name: 0 for cell in book.all_cells()}
        value, behind = run_alone(book, name, arguments, blank)
        return " ".join([str(value)] + [str(behind[cell.name]) for cell in book.all_cells()])

    def _words_of(self, words):
        book = self.session.current()
        if words[0] == "book":
            return write_book(book)
        if words[0] == "truest":
            return truest(book, words[1]).name
        if words[0] == "labels":
            return " ".join([book[name].label.name for name in book.names()])
        names = wrong_names(book)
        return " ".join(names) if len(names) > 0 else "none"

    def _change(self, words):
        session = self.session
        if words[0] == "relabel":
            session.relabel(words[1], words[2])
        elif words[0] == "kind":
            session.change_cell(words[1], words[2])
        elif words[0] == "drop":
            session.drop(words[1])
        elif words[0] == "raise":
            session.raise_all()
        else:
            session.undo()


def _has_form(words):
    """Whether words are those of a line, but for one that begins with `run`."""
    if words[0] not in FORMS or len(words) != len(FORMS[words[0]]) + 1:
        return False
    return all([_fits(form, word) for form, word in zip(FORMS[words[0]], words[1:])])


def _fits(form, word):
    if form == "name":
        return is_name(word)
    return word in (LABELS if form == "label" else KINDS)
