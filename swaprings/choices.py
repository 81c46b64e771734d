"""Options that change a rule, and the cheapest choice of them that gives it an order."""

from swaprings.barriers import all_sets
from swaprings.errors import InvalidOptions
from swaprings.orders import least_order
from swaprings.rules import MOST_PRICE, prices_of
from swaprings.values import is_pair_of_shifts, is_set_of, is_tuple_of, is_whole

MOST_OPTIONS = 6
MOST_COST = 99


def require_options(rule, value):
    """Returns the value if it is options for the rule's shifts, raises InvalidOptions otherwise."""
    if not isinstance(value, tuple) or not 1 <= len(value) <= MOST_OPTIONS:
        raise InvalidOptions(None)
    for index, option in enumerate(value):
        if not _is_option(option, rule[0]):
            raise InvalidOptions(index)
    return value


def _is_option(value, shifts):
    if not is_tuple_of(value, 4) or not is_pair_of_shifts(value[:2], shifts):
        return False
    if value[2] is not None and not is_whole(value[2], -MOST_PRICE, MOST_PRICE):
        return False
    return is_whole(value[3], 0, MOST_COST)


def choices(options):
    """Yields all choices among the options, by their cost, then as tuples."""
    found = [(cost_of(options, chosen), chosen) for chosen in all_sets(len(options)) if _are_apart(options, chosen)]
    for _, chosen in sorted(found):
        yield chosen


def _are_apart(options, chosen):
    """Tells whether no two of the chosen options are for the same pair of shifts."""
    return len({options[index][:2] for index in chosen}) == len(chosen)


def cost_of(options, choice):
    """Returns what the options of the choice cost together."""
    return sum([options[index][3] for index in choice])


def is_choice(options, value):
    """Tells whether the value is a choice among the options."""
    return is_set_of(value, len(options)) and _are_apart(options, value)


def rule_with(rule, options, choice):
    """Returns the rule that the choice makes of the rule."""
    prices = prices_of(rule)
    for index in choice:
        i, j, price, _ = options[index]
        prices[(i, j)] = price
    steps = [(i, j, price) for (i, j), price in prices.items() if price is not None]
    return rule[0], tuple(sorted(steps))


def cheapest_choice(rule, options):
    """Returns the first of the choices whose rule has an order, None if there is none."""
    for choice in choices(options):
        if least_order(rule_with(rule, options, choice)) is not None:
            return choice
    return None
