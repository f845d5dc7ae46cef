"""Point [4]: labels."""

import unittest

from oddities import oddities
from steadycalls.errors import BadLabel
from steadycalls.labels import LABELS, Label, least

NAMES = ["always", "session", "statement", "changing"]


class TestLabel(unittest.TestCase):
    def test_names_from_the_highest_one_down(self):
        self.assertEqual(LABELS, tuple(NAMES))
        self.assertEqual([Label(name).name for name in LABELS], NAMES)
        self.assertEqual(Label(name="session").name, "session")

    def test_refused(self):
        for value in oddities() + ["Always", "always ", "steady", Label("always"), ("always",), ["always"]]:
            with self.assertRaises(BadLabel) as caught:
                Label(value)
            self.assertIs(caught.exception.label, value)

    def test_each_beside_each(self):
        for one in NAMES:
            for other in NAMES:
                lower = NAMES.index(one) > NAMES.index(other)
                same = one == other
                self.assertIs(Label(one) == Label(other), same)
                self.assertIs(Label(one) != Label(other), not same)
                self.assertIs(Label(one) < Label(other), lower)
                self.assertIs(Label(one) <= Label(other), lower or same)
                self.assertIs(Label(other) > Label(one), lower)
                self.assertIs(Label(other) >= Label(one), lower or same)

    def test_other_classes_are_not_equal(self):
        for value in ["always", None, 0, 3, ("always",), object()]:
            self.assertIs(Label("always") == value, False)
            self.assertIs(value == Label("always"), False)

    def test_is_steady(self):
        self.assertEqual([Label(name).is_steady() for name in NAMES], [True, True, True, False])

    def test_higher(self):
        for place, name in enumerate(NAMES):
            label = Label(name)
            told = label.higher()
            self.assertEqual([one.name for one in told], NAMES[:place][::-1])
            self.assertTrue(all(isinstance(one, Label) and label < one for one in told))
            told.append("mine")
            self.assertEqual(len(label.higher()), place)


class TestLeast(unittest.TestCase):
    def test_least_of_rows(self):
        self.assertEqual(least([]), Label("always"))
        self.assertEqual(least(()), Label("always"))
        for name in NAMES:
            self.assertEqual(least([Label(name)]), Label(name))
        rows = [Label("session"), Label("statement"), Label("always"), Label("statement")]
        self.assertEqual(least(labels=rows), Label("statement"))
        self.assertEqual(least(tuple(rows) + (Label("changing"),)).name, "changing")
        self.assertEqual([one.name for one in rows], ["session", "statement", "always", "statement"])
