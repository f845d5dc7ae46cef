"""Words of rows of texts, taken one after the other."""

from steadycalls.cells import is_name

FIGURES = ("0", "1", "2", "3", "4", "5", "6", "7", "8", "9")
LONGEST_NUMBER = 2


class NoForm(Exception):
    """A row has no form that may stand there."""


class Words:
    """The words of a row, single blanks between them."""

    def __init__(self, row):
        self._left = row.split(" ")[::-1]

    def take(self):
        """The next word."""
        if len(self._left) == 0:
            raise NoForm("no such form")
        return self._left.pop()

    def take_one_of(self, words):
        """The next word, which is one of some."""
        word = self.take()
        if word not in words:
            raise NoForm("no such form")
        return word

    def take_name(self):
        """The next word, which is a name."""
        word = self.take()
        if not is_name(word):
            raise NoForm("no such form")
        return word

    def take_figure(self, many):
        """The number of the next word, which is one of the first so many figures."""
        return FIGURES.index(self.take_one_of(FIGURES[:many]))

    def take_number(self):
        """The number of the next word, at most two figures without a leading zero."""
        word = self.take()
        if not 1 <= len(word) <= LONGEST_NUMBER or not all([figure in FIGURES for figure in word]):
            raise NoForm("no such form")
        if len(word) > 1 and word[0] == FIGURES[0]:
            raise NoForm("no such form")
        return int(word)

    def take_all_of(self, words):
        """The list of the words that are left, each of which is one of some."""
        taken = []
        while len(self._left) > 0:
            taken.append(self.take_one_of(words))
        return taken

    def end(self):
        """Nothing is left."""
        if len(self._left) > 0:
            raise NoForm("no such form")
