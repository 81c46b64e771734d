"""The most and the least people that a step has in the tables with some sums."""

from swaprings.barriers import all_sets, barrier_for, next_shifts
from swaprings.prices import cheapest
from swaprings.rules import steps_of


def most_of(rule, sums, step):
    """Returns the greatest count of the step in tables with these sums, None if there is no table."""
    if barrier_for(rule, sums) is not None:
        return None
    return _most(rule, sums, step)


def least_of(rule, sums, step):
    """Returns the least count of the step in tables with these sums, None if there is no table."""
    if barrier_for(rule, sums) is not None:
        return None
    return _least(rule, sums, step)


def _most(rule, sums, step):
    return min([upper(rule, sums, step, chosen) for chosen in all_sets(rule[0]) if step[0] not in chosen])


def _least(rule, sums, step):
    return max([0] + [lower(rule, sums, step, chosen) for chosen in all_sets(rule[0]) if step[0] in chosen])


def table_with_most(rule, sums, step):
    """Returns a table with these sums that has the most people on the step, None if there is no table."""
    return cheapest(_priced_alone(rule, step, -1), sums)


def table_with_least(rule, sums, step):
    """Returns a table with these sums that has the least people on the step, None if there is no table."""
    return cheapest(_priced_alone(rule, step, 1), sums)


def _priced_alone(rule, step, price):
    """Returns the rule with this price for the step and 0 for all others."""
    return rule[0], tuple([(i, j, price if (i, j) == step else 0) for i, j, _ in rule[1]])


def upper(rule, sums, step, shifts):
    """Returns the upper bound for the step (i, j) of the shifts, a set without i."""
    ends = next_shifts(rule, shifts)
    room = sum([many for j, many in enumerate(sums[1]) if j == step[1] or j in ends])
    return room - sum([sums[0][i] for i in shifts])


def lower(rule, sums, step, shifts):
    """Returns the lower bound for the step (i, j) of the shifts, a set with i."""
    others = (rule[0], tuple([priced for priced in rule[1] if priced[:2] != step]))
    room = sum([sums[1][j] for j in next_shifts(others, shifts)])
    return sum([sums[0][i] for i in shifts]) - room


def sure_steps(rule, sums):
    """Returns the steps that have people in every table with these sums, None if there is no table."""
    if barrier_for(rule, sums) is not None:
        return None
    return tuple([step for step in steps_of(rule) if _least(rule, sums, step) > 0])


def idle_steps(rule, sums):
    """Returns the steps that have people in no table with these sums, None if there is no table."""
    if barrier_for(rule, sums) is not None:
        return None
    return tuple([step for step in steps_of(rule) if _most(rule, sums, step) == 0])
