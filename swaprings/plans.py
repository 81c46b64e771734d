"""Plans of several days: whether there is a roster, a cheapest one, and whether a row fits."""

from swaprings.barriers import barrier_for, table_for
from swaprings.errors import InvalidPlan
from swaprings.prices import cheapest
from swaprings.rules import first_wrong_rule, steps_of
from swaprings.values import MOST_PEOPLE, are_counts, is_tuple_of

MOST_DAYS = 7


def require_plan(value):
    """Returns the value if it is a plan, raises InvalidPlan otherwise."""
    if not _has_form(value):
        raise InvalidPlan(None)
    needs, rules = value
    wrong = first_wrong_rule(rules)
    if wrong is not None:
        raise InvalidPlan(("rule", wrong))
    for t, need in enumerate(needs):
        if not are_counts(need, rules[0][0]) or sum(need) > MOST_PEOPLE or sum(need) != sum(needs[0]):
            raise InvalidPlan(("need", t))
    return value


def _has_form(value):
    if not is_tuple_of(value, 2):
        return False
    needs, rules = value
    if not isinstance(needs, tuple) or not isinstance(rules, tuple):
        return False
    return 1 <= len(needs) <= MOST_DAYS and len(rules) > 0 and len(needs) - 1 <= len(rules) <= len(needs)


def is_endless(plan):
    """Tells whether the plan has a rule from the last day to the first."""
    return len(plan[0]) == len(plan[1])


def sums_for(plan, t):
    """Returns the sums of rule t of the plan."""
    needs = plan[0]
    return needs[t], needs[(t + 1) % len(needs)]


def roster_for(plan):
    """Returns a roster of the plan, or None."""
    return _all_or_none([table_for(rule, sums_for(plan, t)) for t, rule in enumerate(plan[1])])


def _all_or_none(tables):
    """Returns a tuple of the tables, None if one of them is None."""
    return None if None in tables else tuple(tables)


def first_barrier(plan):
    """Returns (t, barrier) for the first rule that has a barrier, or None."""
    for t, rule in enumerate(plan[1]):
        barrier = barrier_for(rule, sums_for(plan, t))
        if barrier is not None:
            return t, barrier
    return None


def cheapest_roster(plan):
    """Returns a roster of the least price, or None."""
    return _all_or_none([cheapest(rule, sums_for(plan, t)) for t, rule in enumerate(plan[1])])


def row_fits(plan, row):
    """Tells whether the row fits the plan."""
    if first_barred_day(plan, row) is not None or first_short_day(plan, row) is not None:
        return False
    return first_barrier_of_others(plan, row) is None


def first_barred_day(plan, row):
    """Returns the first day but the last from which the row's step is barred, or None."""
    for t, step in enumerate(zip(row, row[1:])):
        if step not in steps_of(plan[1][t]):
            return t
    return None


def first_short_day(plan, row):
    """Returns the first day with nobody on the row's shift, or None."""
    for t, shift in enumerate(row):
        if plan[0][t][shift] == 0:
            return t
    return None


def sums_of_others(plan, row, t):
    """Returns the sums of rule t less one at the row's two shifts, or as they are if rule t leads to the first day."""
    rows, columns = sums_for(plan, t)
    if t == len(row) - 1:
        return rows, columns
    return _one_less(rows, row[t]), _one_less(columns, row[t + 1])


def _one_less(counts, at):
    return counts[:at] + (counts[at] - 1,) + counts[at + 1:]


def first_barrier_of_others(plan, row):
    """Returns (t, barrier) for the first rule with a barrier for the others' sums, or None."""
    for t, rule in enumerate(plan[1]):
        barrier = barrier_for(rule, sums_of_others(plan, row, t))
        if barrier is not None:
            return t, barrier
    return None


def roster_of_others(plan, row):
    """Returns a table of each rule with the others' sums; there is somebody on each of the row's shifts."""
    return _all_or_none([table_for(rule, sums_of_others(plan, row, t)) for t, rule in enumerate(plan[1])])
