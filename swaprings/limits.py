"""The most and the least people that a step has in the tables with some sums."""

from swaprings.barriers import all_sets, barrier_for, next_shifts
from swaprings.prices import cheapest
from swaprings.rules import steps_of

MOST = "most"


def most_of(rule, sums, step):
    """Returns the greatest count of the step in tables with these sums, None if there is no table."""
    if barrier_for(rule, sums) is not None:
        return None
    return _most(rule, sums, step)


def least_of(rule, sums, step):
    """Returns the least count of the step in tables with these sums, None if there is no table."""
    if barrier_for(rule, sums) is not None:
        return None
    return _least(rule, sums, step)


def _most(rule, sums, step):
    return min([upper(rule, sums, step, chosen) for chosen in all_sets(rule[0]) if step[0] not in chosen])


def _least(rule, sums, step):
    return max([0] + [lower(rule, sums, step, chosen) for chosen in all_sets(rule[0]) if step[0] in chosen])


def table_at(kind, rule, sums, step):
    """Returns a table with these sums that has the most or the least people on the step, None if there is no table."""
    price = -1 if kind == MOST else 1
    alone = [(i, j, price if (i, j) == step else 0) for i, j, _ in rule[1]]
    return cheapest((rule[0], tuple(alone)), sums)


def bound_at(kind, rule, sums, step, shifts):
    """Returns the upper bound of the shifts for the most of the step, the lower one for its least."""
    return upper(rule, sums, step, shifts) if kind == MOST else lower(rule, sums, step, shifts)


def is_beyond(kind, many, other):
    """Tells whether so many are more than the other number, for the most, or fewer, for the least."""
    return many > other if kind == MOST else many < other


def upper(rule, sums, step, shifts):
    """Returns the upper bound for the step (i, j) of the shifts, a set without i."""
    ends = next_shifts(rule, shifts)
    room = sum([many for j, many in enumerate(sums[1]) if j == step[1] or j in ends])
    return room - sum([sums[0][i] for i in shifts])


def lower(rule, sums, step, shifts):
    """Returns the lower bound for the step (i, j) of the shifts, a set with i."""
    others = (rule[0], tuple([priced for priced in rule[1] if priced[:2] != step]))
    room = sum([sums[1][j] for j in next_shifts(others, shifts)])
    return sum([sums[0][i] for i in shifts]) - room


def sure_steps(rule, sums):
    """Returns the steps that have people in every table with these sums, None if there is no table."""
    if barrier_for(rule, sums) is not None:
        return None
    return tuple([step for step in steps_of(rule) if _least(rule, sums, step) > 0])


def idle_steps(rule, sums):
    """Returns the steps that have people in no table with these sums, None if there is no table."""
    if barrier_for(rule, sums) is not None:
        return None
    return tuple([step for step in steps_of(rule) if _most(rule, sums, step) == 0])
