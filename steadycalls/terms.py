"""Terms of functions: their form, and what is in them.

Terms are gone through level by level, not by recursion: what is handed in as a
term may be far deeper, or far longer, than a term can be.
"""

from steadycalls.cells import is_name, is_value, is_whole

MOST_PARTS = 30
MOST_DEEP = 8
MOST_ARGUMENTS = 2

# How long a tuple with one of these words is; all behind the word are terms.
LENGTHS = {"tick": 1, "plus": 3, "less": 3, "same": 3, "if": 4}


def is_term(value, arguments):
    """Whether any value is a term, with indexes of arguments below a number."""
    level = [value]
    deep = 0
    many = 0
    while level:
        deep += 1
        many += len(level)
        # Looked at for each level: shared parts may make the next one very long.
        if deep > MOST_DEEP or many > MOST_PARTS:
            return False
        if not all([_has_form(part, arguments) for part in level]):
            return False
        level = _next_level(level)
    return True


def _has_form(part, arguments):
    """Whether any value is put as a term is, whatever stands where its terms should."""
    if is_value(part):
        return True
    if not isinstance(part, tuple) or len(part) == 0 or not isinstance(part[0], str):
        return False
    word = part[0]
    if word == "arg":
        return len(part) == 2 and is_whole(part[1]) and 0 <= part[1] < arguments
    if word == "cell":
        return len(part) == 2 and is_name(part[1])
    if word == "call":
        return len(part) == 3 and is_name(part[1]) and _has_call_form(part[2])
    return word in LENGTHS and len(part) == LENGTHS[word]


def _has_call_form(terms):
    return isinstance(terms, tuple) and len(terms) <= MOST_ARGUMENTS


def inner_terms(term):
    """The list of the terms that stand directly in a term."""
    if is_value(term) or term[0] in ("arg", "cell"):
        return []
    if term[0] == "call":
        return list(term[2])
    return list(term[1:])


def _next_level(level):
    return [inner for part in level for inner in inner_terms(part)]


def all_parts(term):
    """The list of all parts of a term, itself the first one."""
    parts = []
    level = [term]
    while level:
        parts.extend(level)
        level = _next_level(level)
    return parts


def parts_with(word, term):
    """The list of the parts of a term that begin with a word."""
    return [part for part in all_parts(term) if not is_value(part) and part[0] == word]


def term_size(term):
    """How many parts a term has."""
    return len(all_parts(term))


def term_depth(term):
    """How deep a term is: 1 for a value."""
    deep = 0
    level = [term]
    while level:
        deep += 1
        level = _next_level(level)
    return deep


def cells_in(term):
    """The ascending list of the names of the cells in a term."""
    return _ascending([part[1] for part in parts_with("cell", term)])


def calls_in(term):
    """The ascending list of the names of the functions in a term."""
    return _ascending([part[1] for part in parts_with("call", term)])


def has_tick(term):
    """Whether the tick is in a term."""
    return len(parts_with("tick", term)) > 0


def _ascending(names):
    once = {name: True for name in names}
    return sorted([str(name) for name in once])
