"""Papers, which show that two plans are alike, or are not; and their judge."""

from steadycalls.alike import MOST_ROWS_UNLIKE, check_plans, difference, is_difference
from steadycalls.cells import VALUES, is_value
from steadycalls.oracles import Sheet, is_token
from steadycalls.searches import Search
from steadycalls.statements import is_row, tables_of
from steadycalls.walks import Walk, known_more, possible_values, unlike_values


def paper_of(one, other):
    """A paper of two plans."""
    found = difference(one, other)
    if found is not None:
        return ("unlike", tuple(found[0]), found[1])
    return ("alike", [(table, Search(one, other, table).tree) for table in _all_tables(one.statement)])


def _all_tables(statement):
    """The list of all tables of none, one or two rows, a tuple each."""
    return [tuple(table) for many in range(MOST_ROWS_UNLIKE + 1) for table in tables_of(statement, many)]


def lets_paper(one, other, value):
    """Whether any value is a paper of two plans."""
    check_plans(one, other)
    if not isinstance(value, tuple) or len(value) < 2 or not isinstance(value[0], str):
        return False
    if value[0] == "unlike":
        return is_difference(one, other, value[1:])
    return value[0] == "alike" and len(value) == 2 and _let_trees(one, other, value[1])


def _let_trees(one, other, value):
    """Whether any value is a list of trees that show that two plans are alike."""
    if not isinstance(value, list):
        return False
    missing = {table: True for table in _all_tables(one.statement)}
    for entry in value:
        if not isinstance(entry, tuple) or len(entry) != 2:
            return False
        table, tree = entry
        if not _is_short_table(table) or table not in missing:
            return False
        del missing[table]
        if not _lets_tree(one, other, table, tree):
            return False
    return len(missing) == 0


def _is_short_table(value):
    """Whether any value is a tuple of none, one or two rows."""
    if not isinstance(value, tuple) or len(value) > MOST_ROWS_UNLIKE:
        return False
    return all([is_row(row) for row in value])


def _lets_tree(one, other, table, value):
    """Whether any value is a tree that shows that two plans are alike on a table."""
    sheets = (Sheet(one, table), Sheet(other, table))
    # Not by recursion: whoever wrote the tree may have made it very deep.
    waiting = [(value, {})]
    while waiting:
        tree, known = waiting.pop()
        if tree is None:
            if not _is_enough(sheets, known):
                return False
        elif not _is_fork(tree, known):
            return False
        else:
            token, some, first, second = tree
            rest = tuple([possible for possible in possible_values(known, token) if possible not in some])
            waiting.append((second, known_more(known, token, rest)))
            waiting.append((first, known_more(known, token, some)))
    return True


def _is_fork(value, known):
    """Whether any value parts the values of a token as a tree does, whatever its trees are."""
    if not isinstance(value, tuple) or len(value) != 4 or not is_token(value[0]):
        return False
    some = value[1]
    if not isinstance(some, tuple) or not 1 <= len(some) < len(VALUES):
        return False
    possible = possible_values(known, value[0])
    if not all([is_value(one) and one in possible for one in some]) or len(some) >= len(possible):
        return False
    return all([one < other for one, other in zip(some[:-1], some[1:])])


def _is_enough(sheets, known):
    """Whether what is known decides all that two plans look at, and they are alike by it."""
    walks = [Walk(sheet) for sheet in sheets]
    if any([walk.go(known) is not None for walk in walks]):
        return False
    return unlike_values(walks[0], walks[1], known) is None
