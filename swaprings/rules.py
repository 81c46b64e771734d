"""Rules: which steps lead from a shift of one day to one of the next, and what they cost."""

from swaprings.errors import InvalidRule
from swaprings.values import is_pair_of_shifts, is_tuple_of, is_whole

FEWEST_SHIFTS = 2
MOST_SHIFTS = 5
MOST_PRICE = 99


def require_rule(value):
    """Returns the value if it is a rule, raises InvalidRule otherwise."""
    if not is_tuple_of(value, 2):
        raise InvalidRule(None)
    shifts, steps = value
    if not is_whole(shifts, FEWEST_SHIFTS, MOST_SHIFTS):
        raise InvalidRule(("shifts",))
    if not isinstance(steps, tuple):
        raise InvalidRule(("steps",))
    for t, step in enumerate(steps):
        if not _is_priced_step(step, shifts):
            raise InvalidRule(("step", t))
        if t > 0 and step[:2] <= steps[t - 1][:2]:
            raise InvalidRule(("step", t))
    return value


def is_rule(value):
    """Tells whether the value is a rule."""
    try:
        require_rule(value)
    except InvalidRule:
        return False
    return True


def first_wrong_rule(values):
    """Returns the index of the first that is no rule, or has other shifts than the first one; None if there is none."""
    for index, value in enumerate(values):
        if not is_rule(value) or value[0] != values[0][0]:
            return index
    return None


def _is_priced_step(value, shifts):
    if not is_tuple_of(value, 3):
        return False
    return is_pair_of_shifts(value[:2], shifts) and is_whole(value[2], -MOST_PRICE, MOST_PRICE)


def steps_of(rule):
    """Returns the ascending tuple of the rule's steps."""
    return tuple([(i, j) for i, j, _ in rule[1]])


def prices_of(rule):
    """Returns a new dict with the price of each step."""
    return {(i, j): price for i, j, price in rule[1]}


def price_of(rule, i, j):
    """Returns the price of (i, j), None if the pair is barred."""
    return prices_of(rule).get((i, j))


def unpriced(rule):
    """Returns the rule with all prices 0."""
    return rule[0], tuple([(i, j, 0) for i, j, _ in rule[1]])


def flipped(rule):
    """Returns the rule that leads from the next day to the day."""
    return rule[0], tuple(sorted([(j, i, price) for i, j, price in rule[1]]))
