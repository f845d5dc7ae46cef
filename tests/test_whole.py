"""Over the whole program: what is told of a plan in several ways goes together."""

import itertools
import random
import unittest

import plain
import reference
from steadycalls.alike import are_alike, difference
from steadycalls.books import Book
from steadycalls.cells import Cell
from steadycalls.console import Console
from steadycalls.costs import cost_of, with_memos
from steadycalls.functions import Function
from steadycalls.indexes import Index, index_bar
from steadycalls.islands import islands, part_of
from steadycalls.judges import lets_paper, paper_of
from steadycalls.kepts import Kept
from steadycalls.lies import honest, is_lie, lie
from steadycalls.likebooks import are_alike_books, call_at
from steadycalls.oracles import Oracle
from steadycalls.plans import is_sound
from steadycalls.plays import folded, play, sights
from steadycalls.raising import moves_of, raising, with_moves
from steadycalls.runs import World, run_alone
from steadycalls.sessions import Session
from steadycalls.shown import moved
from steadycalls.statements import Statement
from steadycalls.terms import term_depth
from steadycalls.texts import (
    read_book, read_plan, read_statement, read_term, write_book, write_plan, write_statement, write_term,
)
from steadycalls.toldruns import counts_of, goes_with, told_run
from steadycalls.truest import truest, truest_book, wrong_names


def some_case(seed):
    """A tuple (chance, plan, planning state, state, table), all picked by chance."""
    chance = random.Random(seed)
    book = reference.some_book(seed)
    plan = plain.some_plan(chance, book, plain.some_statement(chance, book, 8))
    planning, state = reference.some_state(chance, book), reference.some_state(chance, book)
    for cell in book.all_cells():
        if cell.kind == "frozen" or cell.kind == "setting" and not plan.kept:
            planning[cell.name] = state[cell.name]
    return chance, plan, planning, state, plain.some_table(chance)


def tokens_of(plan, planning, state, seen):
    """The values of all tokens in a play whose sights are told."""
    values = {}
    for name in plan.book.names():
        if plan.book[name].label.name != "changing":
            for given in itertools.product(range(3), repeat=plan.book[name].arguments):
                values[("steady", name, given)] = World(plan.book, state).call(name, given)
                values[("folded", name, given)] = World(plan.book, planning).call(name, given)
    results = [value for _, index, value in seen if plan.label_of(index).name == "changing"]
    return {**values, **{("result", at): value for at, value in enumerate(results)}}


class TestPlans(unittest.TestCase):
    def test_played_seen_counted_and_paid(self):
        for seed in range(250):
            _, plan, _, state, table = some_case(seed)
            answers, behind, made = play(plan, state, table)
            self.assertEqual((answers, behind, made), plain.play(plan, state, table, plain.folds_of(plan, state))[:3])
            seen = list(sights(plan, state, table))
            calls = plan.statement.all_calls()
            self.assertEqual([calls[index][0] for _, index, _ in seen], [name for name, _ in made])
            counts = counts_of(plan, state, table)
            self.assertEqual(sum(counts.values()), len(made))
            values = tokens_of(plan, state, state, seen)
            self.assertEqual(cost_of(plan, table, values), sum(plan.book[name].cost * counts[name] for name in counts))
            self.assertLessEqual(cost_of(with_memos(plan), table, values), cost_of(plan, table, values))
            run = told_run(plan, state, table)
            self.assertEqual((run, goes_with(plan, [run])), ((state, table, counts), True))

    def test_judged_as_played(self):
        """What an oracle tells of the values of a play is what was played, with folded values of another state, too."""
        for seed in range(250):
            _, plan, planning, state, table = some_case(seed)
            right = plan.book if not wrong_names(plan.book) else honest(plan.book)
            if right != plan.book:
                marks = [mark if right[name].label.is_steady() else "each" for mark, (name, _) in zip(plan.marks, plan.statement.all_calls())]
                plan = plain.Plan(right, plan.statement, orders=plan.orders, phases=plan.phases, marks=marks, kept=plan.kept)
            folds = folded(plan, planning)
            answers, behind, made = play(plan, state, table, folds=folds)
            world = World(right, state)
            results = []
            for name, given in made:
                value = world.call(name, given)
                if right[name].label.name == "changing":
                    results.append(value)
            self.assertEqual(world.state(), behind)
            values = tokens_of(plan, planning, state, [])
            values.update({("result", at): value for at, value in enumerate(results)})
            changing = [call for call in made if right[call[0]].label.name == "changing"]
            self.assertEqual(Oracle(values).judge(plan, table), (changing, answers))

    def test_alike_plans_are_seen_alike(self):
        alike = 0
        for seed in range(250):
            chance, plan, planning, state, table = some_case(seed)
            if wrong_names(plan.book) or len(plan.statement) > 5:
                continue
            other = plain.near_plan(chance, plan)
            if not are_alike(plan, other):
                table, values = difference(plan, other)
                self.assertNotEqual(Oracle(values).judge(plan, table), Oracle(values).judge(other, table))
                continue
            alike += 1
            one, beside = [play(each, state, table, folds=folded(each, planning))[:2] for each in (plan, other)]
            self.assertEqual(one, beside)
            self.assertIs(lets_paper(plan, other, paper_of(plan, other)), True)
        self.assertGreater(alike, 25)

    def test_written_and_read_back(self):
        for seed in range(250):
            _, plan, _, state, table = some_case(seed)
            book = read_book(write_book(plan.book))
            statement = read_statement(write_statement(plan.statement))
            back = read_plan(book, statement, write_plan(plan))
            self.assertEqual((book, statement, back), (plan.book, plan.statement, plan))
            self.assertEqual(play(back, state, table), play(plan, state, table))
            for name in book.names():
                for term in book[name].parts():
                    self.assertEqual(read_term(write_term(term), book[name].arguments), term)
                    self.assertLessEqual(term_depth(term), 8)

    def test_kept_plans(self):
        for seed in range(250):
            _, plan, planning, state, table = some_case(seed)
            if plan.kept:
                kept = Kept(plan, planning)
                self.assertEqual(kept.played(state, table), play(plan, state, table, folds=kept.folds()))
                if kept.is_good(state):
                    self.assertEqual(kept.played(state, table), play(plan, state, table))
                if is_sound(plan) and not wrong_names(plan.book):
                    self.assertIs(kept.is_good(state), True)


class TestBooks(unittest.TestCase):
    def test_labels_moves_and_indexes(self):
        for seed in range(60):
            book = reference.some_book(seed)
            console = Console(book)
            self.assertEqual(console.answer("wrong"), " ".join(wrong_names(book) or ["none"]))
            for name in book.names():
                is_always = truest(book, name).name == "always"
                self.assertEqual([index_bar(book, name) is None, console.answer("truest " + name) == "always"], [is_always] * 2)
                if len(moves_of(book, name)) <= 5:
                    least = raising(book, name, "always")
                    self.assertEqual(is_always, least == [()])
                    for moves in least:
                        self.assertIsNone(index_bar(with_moves(book, moves), name))
            console.answer("raise")
            self.assertEqual(console.session.current(), truest_book(book))
            self.assertEqual(console.answer("wrong"), "none")

    def test_runs_calls_and_indexes(self):
        for seed in range(80):
            chance = random.Random(seed)
            book = reference.some_book(seed)
            state = reference.some_state(chance, book)
            for name in book.names():
                index = Index(book, name, state)
                for given, entry in index.entries().items():
                    value, behind = run_alone(book, name, given, state)
                    self.assertEqual(entry, value)
                    steady = book.labelled({name: "always"})
                    self.assertEqual(call_at(steady, name, given, (state, state, 2)), (value, state))
                    self.assertEqual(World(steady, state).call(name, given), value)

    def test_islands_do_by_themselves_what_they_do_in_the_book(self):
        parted = 0
        for seed in range(120):
            chance = random.Random(seed)
            book = reference.some_book(seed)
            for island in islands(book):
                part = part_of(book, island)
                parted += len(part) < len(book)
                plan = plain.some_plan(chance, part, plain.some_statement(chance, part, 6))
                state, table = reference.some_state(chance, book), plain.some_table(chance)
                own = {cell.name: state[cell.name] for cell in part.all_cells()}
                answers, behind, made = play(moved(plan, book), state, table)
                self.assertEqual(play(plan, own, table), (answers, {name: behind[name] for name in own}, made))
        self.assertGreater(parted, 30)

    def test_a_session_changes_nothing_that_is_made_of_its_books(self):
        for seed in range(40):
            _, plan, _, state, table = some_case(seed)
            session = Session(plan.book)
            ahead = play(plan, state, table)
            session.raise_all()
            with session.trial():
                session.rebook(read_book(write_book(session.current())))
                self.assertEqual(session.current(), truest_book(plan.book))
            session.undo()
            self.assertEqual((play(plan, state, table), session.current()), (ahead, plan.book))

    def test_lies_do_not_show_in_honest_books(self):
        for seed in range(60):
            book = reference.some_book(seed)
            statement = plain.some_statement(random.Random(seed), book, 2)
            if len(book.all_cells()) > 2 or len(statement.columns()) > 1:
                continue
            told = lie(book, statement)
            self.assertIsNone(lie(honest(book), statement))
            if told is not None:
                self.assertIs(is_lie(book, statement, *told), True)
                self.assertIs(is_lie(honest(book), statement, *told), False)
                self.assertNotEqual(book, honest(book))


class TestGreatest(unittest.TestCase):
    """A book of eight functions and six cells, terms and trees eight deep, and a statement of eight calls."""

    def setUp(self):
        kinds = ["table", "table", "table", "setting", "setting", "frozen"]
        cells = [Cell("cell" + letter, kind) for letter, kind in zip("abcdef", kinds)]
        functions = []
        for at, letter in enumerate("abcdefgh"):
            term = ("cell", "cell" + "abcdef"[at % 6])
            for _ in range(6):
                term = ("plus", ("arg", 0), term)
            if at > 0:
                term = ("plus", ("call", "func" + "abcdefgh"[at - 1], (("arg", 1), ("arg", 0))), term)
            label = "changing" if at in (2, 7) else "statement"
            writes = [("cella", ("plus", ("cell", "cellb"), ("tick",)))] if at in (2, 7) else []
            functions.append(Function("func" + letter, 2, term if term_depth(term) <= 8 else term[1], label=label, writes=writes, cost=99 - at))
        self.book = Book(cells, functions)
        tree = ("is", ("funca", ("x", "y")), 0)
        for at in range(6):
            beside = ("is", ("func" + "bcdefg"[at], ("y", at % 3)), at % 3)
            tree = [("and", (tree, beside)), ("or", (beside, tree))][at % 2]
        self.statement = Statement(("not", tree), [(("funch", (0, "x")), True)])
        self.state = {cell.name: at % 3 for at, cell in enumerate(cells)}

    def test_all_of_it(self):
        self.assertEqual([len(self.book), len(self.book.all_cells()), len(self.statement)], [8, 6, 8])
        self.assertEqual(max(term_depth(self.book[name].result) for name in self.book.names()), 8)
        marks = ["each" if self.book[name].label.name == "changing" else "memo" for name, _ in self.statement.all_calls()]
        plan = plain.Plan(self.book, self.statement, orders=[(1, 0)] * 6, phases="filters", marks=marks)
        table = [(at % 3, at % 2) for at in range(6)]
        answers, behind, made = play(plan, self.state, table)
        self.assertEqual((answers, behind, made), plain.play(plan, self.state, table, {})[:3])
        back = read_plan(read_book(write_book(self.book)), read_statement(write_statement(self.statement)), write_plan(plan))
        self.assertEqual(back, plan)
        self.assertEqual(play(back, self.state, table), (answers, behind, made))
        self.assertIs(goes_with(plan, [told_run(plan, self.state, table)]), True)
        self.assertIs(are_alike_books(part_of(self.book, ["funca"]), part_of(read_book(write_book(self.book)), ["funca"])), True)
        self.assertEqual(len(islands(self.book)), 1)
        console = Console(self.book)
        self.assertEqual(console.answer("raise"), "ok")
        self.assertEqual(console.answer("wrong"), "none")
        self.assertEqual(console.answer("labels").split(" "), [truest(self.book, name).name for name in self.book.names()])
