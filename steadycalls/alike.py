"""Whether plans are alike, told without bodies."""

from steadycalls.errors import BadPlan, BadToken
from steadycalls.oracles import Oracle
from steadycalls.plans import PHASES, Plan, orders_of
from steadycalls.searches import Search, completed
from steadycalls.statements import is_table, tables_of

MOST_ROWS_UNLIKE = 2


def check_plans(one, other):
    """Raise BadPlan for any values that are no two plans of one statement."""
    if not isinstance(one, Plan):
        raise BadPlan(one)
    if not isinstance(other, Plan):
        raise BadPlan(other)
    if one.book != other.book or one.statement != other.statement or one.kept != other.kept:
        raise BadPlan(other)


def difference(one, other):
    """A difference of two plans, with as few rows as possible, or None if they are alike."""
    check_plans(one, other)
    # Without rows nothing is looked at, and on one row phases make no difference.
    found = _found_on(one, other, tables_of(one.statement, 1))
    if found is None and one.phases != other.phases and _can_mix(one.statement, one.book):
        # Plans that are alike on one row are so on all rows if their phases are equal: each row goes its
        # own way, whatever results came ahead of it. So phases are all that is left to be compared.
        twin = one.changed("phases", other.phases)
        found = _found_on(one, twin, tables_of(one.statement, 2))
    if found is None:
        return None
    table, values = found
    return (table, completed(one, other, table, values))


def _found_on(one, other, tables):
    """None, or the first table with values of some tokens by which two plans are unlike on it."""
    for table in tables:
        search = Search(one, other, table)
        if search.unlike is not None:
            return (table, search.unlike)
    return None


def _can_mix(statement, book):
    """Whether both the filter and the outputs have changing calls, so that phases can mix their results."""
    changing = [not book[name].label.is_steady() for name, _ in statement.all_calls()]
    many = len(statement.atoms())
    return any(changing[:many]) and any(changing[many:])


def are_alike(one, other):
    """Whether two plans are alike."""
    return difference(one, other) is None


def is_difference(one, other, value):
    """Whether any value is a difference of two plans."""
    check_plans(one, other)
    if not isinstance(value, tuple) or len(value) != 2 or not is_table(value[0]):
        return False
    if len(value[0]) > MOST_ROWS_UNLIKE:
        return False
    try:
        oracle = Oracle(value[1])
        return oracle.judge(one, value[0]) != oracle.judge(other, value[0])
    except BadToken:
        return False


def alike_orders(plan):
    """The ascending list of all orders with which a plan is alike to itself as it stands."""
    check_plans(plan, plan)
    return [orders for orders in orders_of(plan.statement) if are_alike(plan, plan.changed("orders", orders))]


def phases_free(plan):
    """Whether a plan is alike to itself with the other phases."""
    check_plans(plan, plan)
    other = PHASES[1] if plan.phases == PHASES[0] else PHASES[0]
    return are_alike(plan, plan.changed("phases", other))
