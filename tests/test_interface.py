"""Point [2] and the interface: names, parameters, and where things are defined."""

import importlib
import inspect
import unittest

FUNCTIONS = {
    "labels": ["least(labels)"],
    "cells": ["states_of(cells)", "check_state(cells, state)"],
    "terms": ["is_term(value, arguments)", "term_size(term)", "term_depth(term)", "cells_in(term)", "calls_in(term)",
              "has_tick(term)"],
    "runs": ["run_alone(book, name, arguments, state, *, tick=0)"],
    "depends": ["cases(book, name)", "value_at(book, name, arguments, case)", "writes_at(book, name, arguments, case)",
                "depends(book, name)", "writing(book, name)", "parting(book, name, kind)"],
    "truest": ["truest(book, name)", "truest_book(book)", "is_right(book, name)", "wrong_names(book)",
               "bars(book, name, label)", "is_bar(book, name, label, value)"],
    "statements": ["is_call(value)", "is_tree(value)", "is_table(value)", "is_constant(call)", "values_of(call, row)",
                   "passes(tree, told)"],
    "plans": ["marks_for(book, statement, index)", "least_label(mark, kept)", "is_sound(plan)", "orders_of(statement)"],
    "plays": ["folded(plan, state)", "play(plan, state, table, *, folds=None)", "sights(plan, state, table)"],
    "oracles": ["is_token(value)", "token_of(plan, index, values)"],
    "alike": ["difference(one, other)", "are_alike(one, other)", "is_difference(one, other, value)", "alike_orders(plan)",
              "phases_free(plan)"],
    "judges": ["paper_of(one, other)", "lets_paper(one, other, value)"],
    "shown": ["shown_by(one, other, value)", "moved(plan, book)"],
    "wrappers": ["is_wrapper(book, name)", "put_in(book, statement, index)", "is_kept(book, statement, index)"],
    "lies": ["honest(book)", "is_lie(book, statement, table, state)", "lie(book, statement, *, rows=2)",
             "least_corrections(book, statement, *, rows=2)"],
    "indexes": ["index_bar(book, name)"],
    "costs": ["cost_of(plan, rows, values)", "begin_cost(plan)", "dearer(one, other)", "is_never_dearer(one, other)", "with_memos(plan)"],
    "means": ["is_chance(value)", "mean_cost(book, statement, orders, chances)", "passing(statement, chances)",
              "least_orders(book, statement, chances)"],
    "raising": ["moves_of(book, name)", "can_move(book, moves)", "with_moves(book, moves)", "raising(book, name, label)"],
    "toldruns": ["counts_of(plan, state, table)", "told_run(plan, state, table)", "goes_with(plan, runs)",
                 "plans_for(book, statement, runs)", "marks_told(book, statement, runs)", "parting_run(one, other)", "parting_runs(plans)"],
    "likebooks": ["call_at(book, name, arguments, moment)", "unlike_call(one, other)", "are_alike_books(one, other)",
                  "is_unlike_call(one, other, value)"],
    "islands": ["islands(book)", "part_of(book, names)", "joined(one, other)", "one_island(book)"],
    "texts": ["write_term(term)", "write_book(book)", "write_statement(statement)", "write_plan(plan)", "read_term(text, arguments)",
              "read_book(text)", "read_statement(text)", "read_plan(book, statement, text)"],
}

CLASSES = {
    "labels": {"Label": ["__init__(self, name)", "__eq__", "__lt__", "__le__", "is_steady(self)", "higher(self)"]},
    "cells": {"Cell": ["__init__(self, name, kind)", "__eq__"]},
    "functions": {"Function": [
        "__init__(self, name, arguments, result, *, label='changing', writes=(), cost=1)", "__eq__",
        "labelled(self, label)", "changed(self, part, value)", "parts(self)",
    ]},
    "books": {"Book": [
        "__init__(self, cells, functions)", "__eq__", "__getitem__", "__contains__", "__len__", "all_cells(self)",
        "names(self)", "cell(self, name)", "reaches(self, name)", "touched(self, name)",
        "with_function(self, function)", "labelled(self, labels)",
    ]},
    "runs": {"World": [
        "__init__(self, book, state)", "call(self, name, arguments)", "state(self)", "view(self)", "tick(self)",
        "calls(self)", "begin(self)", "put(self, name, value)", "assign(self, name, value)", "copy(self)", "__len__",
    ]},
    "statements": {"Statement": [
        "__init__(self, condition, outputs=())", "__eq__", "all_calls(self)", "atoms(self)", "__len__", "parts(self)",
        "columns(self)", "fit(self, book)", "with_output(self, call, shown)",
    ]},
    "plans": {"Plan": [
        "__init__(self, book, statement, *, orders=None, phases='rows', marks=None, kept=False)", "__eq__",
        "changed(self, part, value)", "marked(self, index, mark)", "plain(self)", "is_plain(self)", "label_of(self, index)",
        "folded_calls(self)",
    ]},
    "oracles": {"Oracle": [
        "__init__(self, values)", "__getitem__", "__contains__", "__len__", "__eq__", "judge(self, plan, table)",
    ]},
    "kepts": {"Kept": [
        "__init__(self, plan, state)", "planned(self)", "folds(self)", "__eq__", "stale(self, state)", "is_good(self, state)",
        "is_good_with(self, function, state)", "watched(self)", "played(self, state, table)",
    ]},
    "indexes": {"Index": [
        "__init__(self, book, name, state)", "__getitem__", "__len__", "__eq__", "entries(self)", "find(self, value)",
        "wrong(self, state)", "rewrite(self, arguments, state)",
    ]},
    "sessions": {"Session": [
        "__init__(self, book)", "current(self)", "put(self, function)", "drop(self, name)", "relabel(self, name, label)", "raise_all(self)",
        "change_cell(self, name, kind)", "__len__", "undo(self)", "attempt(self, visitor)", "trial(self)", "rebook(self, book)",
    ]},
    "console": {"Console": ["__init__(self, book)", "answer(self, line)"]},
}


class TestInterface(unittest.TestCase):
    def test_functions(self):
        for module, rows in FUNCTIONS.items():
            for row in rows:
                name, _, parameters = row.partition("(")
                told = getattr(importlib.import_module("steadycalls." + module), name)
                self.assertTrue(inspect.isfunction(told))
                self.assertEqual(told.__module__, "steadycalls." + module)
                self.assertEqual(str(inspect.signature(told)), "(" + parameters)

    def test_classes(self):
        for module, classes in CLASSES.items():
            for name, rows in classes.items():
                told = getattr(importlib.import_module("steadycalls." + module), name)
                self.assertTrue(inspect.isclass(told))
                self.assertEqual(told.__module__, "steadycalls." + module)
                for row in rows:
                    method, bracket, parameters = row.partition("(")
                    self.assertIn(method, vars(told))
                    if bracket:
                        self.assertEqual(str(inspect.signature(vars(told)[method])), "(" + parameters)

    def test_generators(self):
        from steadycalls.cells import states_of
        from steadycalls.depends import cases
        from steadycalls.plans import orders_of
        from steadycalls.plays import sights
        self.assertTrue(inspect.isgeneratorfunction(orders_of))
        self.assertTrue(inspect.isgeneratorfunction(sights))
        self.assertTrue(inspect.isgeneratorfunction(states_of))
        self.assertTrue(inspect.isgeneratorfunction(cases))
