"""Point [2] and the interface: names, parameters, and where things are defined."""

import importlib
import inspect
import unittest

FUNCTIONS = {
    "labels": ["least(labels)"],
    "cells": ["states_of(cells)", "check_state(cells, state)"],
    "terms": ["is_term(value, arguments)", "term_size(term)", "term_depth(term)", "cells_in(term)", "calls_in(term)",
              "has_tick(term)"],
    "runs": ["run_alone(book, name, arguments, state, *, tick=0)"],
    "depends": ["cases(book, name)", "value_at(book, name, arguments, case)", "writes_at(book, name, arguments, case)",
                "depends(book, name)", "writing(book, name)", "parting(book, name, kind)"],
    "truest": ["truest(book, name)", "truest_book(book)", "is_right(book, name)", "wrong_names(book)",
               "bars(book, name, label)", "is_bar(book, name, label, value)"],
}

CLASSES = {
    "labels": {"Label": ["__init__(self, name)", "__eq__", "__lt__", "__le__", "is_steady(self)", "higher(self)"]},
    "cells": {"Cell": ["__init__(self, name, kind)", "__eq__"]},
    "functions": {"Function": [
        "__init__(self, name, arguments, result, *, label='changing', writes=(), cost=1)", "__eq__",
        "labelled(self, label)", "changed(self, part, value)", "parts(self)",
    ]},
    "books": {"Book": [
        "__init__(self, cells, functions)", "__eq__", "__getitem__", "__contains__", "__len__", "all_cells(self)",
        "names(self)", "cell(self, name)", "reaches(self, name)", "touched(self, name)",
        "with_function(self, function)", "labelled(self, labels)",
    ]},
    "runs": {"World": [
        "__init__(self, book, state)", "call(self, name, arguments)", "state(self)", "view(self)", "tick(self)",
        "calls(self)", "begin(self)", "put(self, name, value)", "assign(self, name, value)", "copy(self)", "__len__",
    ]},
}


class TestInterface(unittest.TestCase):
    def test_functions(self):
        for module, rows in FUNCTIONS.items():
            for row in rows:
                name, _, parameters = row.partition("(")
                told = getattr(importlib.import_module("steadycalls." + module), name)
                self.assertTrue(inspect.isfunction(told))
                self.assertEqual(told.__module__, "steadycalls." + module)
                self.assertEqual(str(inspect.signature(told)), "(" + parameters)

    def test_classes(self):
        for module, classes in CLASSES.items():
            for name, rows in classes.items():
                told = getattr(importlib.import_module("steadycalls." + module), name)
                self.assertTrue(inspect.isclass(told))
                self.assertEqual(told.__module__, "steadycalls." + module)
                for row in rows:
                    method, bracket, parameters = row.partition("(")
                    self.assertIn(method, vars(told))
                    if bracket:
                        self.assertEqual(str(inspect.signature(vars(told)[method])), "(" + parameters)

    def test_generators(self):
        from steadycalls.cells import states_of
        from steadycalls.depends import cases
        self.assertTrue(inspect.isgeneratorfunction(states_of))
        self.assertTrue(inspect.isgeneratorfunction(cases))
