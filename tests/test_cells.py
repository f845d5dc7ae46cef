"""Point [4]: names, values, cells and states."""

import itertools
import unittest

from oddities import oddities
from steadycalls.cells import KINDS, Cell, check_state, states_of
from steadycalls.errors import BadPart, BadState


class TestCell(unittest.TestCase):
    def test_attributes(self):
        self.assertEqual(KINDS, ("frozen", "setting", "table"))
        for kind in KINDS:
            for name in ["a", "z", "abcdefgh", "cell"]:
                cell = Cell(name, kind)
                self.assertEqual((cell.name, cell.kind), (name, kind))
        self.assertEqual(Cell(kind="table", name="z"), Cell("z", "table"))

    def test_equal(self):
        self.assertIs(Cell("z", "table") == Cell("z", "table"), True)
        self.assertIs(Cell("z", "table") == Cell("y", "table"), False)
        self.assertIs(Cell("z", "table") == Cell("z", "frozen"), False)
        for value in ["z", ("z", "table"), None, object()]:
            self.assertIs(Cell("z", "table") == value, False)

    def test_refused(self):
        for value in oddities():
            for kind in ["table", "none", value]:
                with self.assertRaises(BadPart) as caught:
                    Cell(value, kind)
                self.assertEqual(caught.exception.part, "name")
            with self.assertRaises(BadPart) as caught:
                Cell("z", value)
            self.assertEqual(caught.exception.part, "kind")
        for kind in ["Table", "tables", ("table",), ["table"]]:
            self.assertRaises(BadPart, Cell, "z", kind)


class TestStatesOf(unittest.TestCase):
    def test_order(self):
        self.assertEqual(list(states_of([])), [{}])
        self.assertEqual(list(states_of([Cell("z", "table")])), [{"z": 0}, {"z": 1}, {"z": 2}])
        for many in range(7):
            cells = [Cell(name, KINDS[many % 3]) for name in "gfedcb"[:many]]
            told = list(states_of(cells))
            expected = [dict(zip("gfedcb", row)) for row in itertools.product(range(3), repeat=many)]
            self.assertEqual(told, expected)
            self.assertEqual([list(state) for state in told], [list(state) for state in expected])

    def test_each_state_is_new(self):
        told = []
        for state in states_of(cells=(Cell("z", "table"), Cell("y", "setting"))):
            told.append(dict(state))
            state["z"] = 7
        self.assertEqual(told[:4], [{"z": 0, "y": 0}, {"z": 0, "y": 1}, {"z": 0, "y": 2}, {"z": 1, "y": 0}])
        self.assertEqual(len(told), 9)

    def test_cells_are_read_when_it_begins(self):
        cells = [Cell("z", "table")]
        states = states_of(cells)
        cells.append(Cell("y", "table"))
        self.assertEqual(next(states), {"z": 0, "y": 0})
        cells.clear()
        self.assertEqual(len(list(states)), 8)


class TestCheckState(unittest.TestCase):
    def setUp(self):
        self.cells = [Cell("z", "table"), Cell("a", "frozen")]

    def fault(self, state):
        with self.assertRaises(BadState) as caught:
            check_state(self.cells, state)
        return caught.exception.name

    def test_states(self):
        for state in states_of(self.cells):
            self.assertIsNone(check_state(self.cells, state))
        self.assertIsNone(check_state(cells=tuple(self.cells), state={"a": 2, "z": 1}))
        self.assertIsNone(check_state([], {}))

    def test_no_dict_or_another_number_of_keys(self):
        for value in [{}, {"z": 0}, {"z": 0, "a": 0, "b": 0}, [("z", 0), ("a", 0)], ("z", "a")]:
            self.assertIsNone(self.fault(value))
        for value in oddities():
            if not isinstance(value, dict) or len(value) != 2:
                self.assertIsNone(self.fault(value))

    def test_first_cell_without_a_value(self):
        self.assertEqual(self.fault({"a": 0, "b": 0}), "z")
        self.assertEqual(self.fault({"z": 0, "b": 0}), "a")
        self.assertEqual(self.fault({1: 2, 3: 4}), "z")
        for value in oddities():
            self.assertEqual(self.fault({"z": value, "a": value}), "z")
            self.assertEqual(self.fault({"a": value, "z": 1}), "a")
