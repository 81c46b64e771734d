"""Whether there is a table with some sums: a table, or a barrier."""

from swaprings.prices import cheapest
from swaprings.rules import steps_of, unpriced
from swaprings.values import is_set_of


def all_sets(shifts):
    """Returns a list of all sets of so many shifts, as ascending tuples."""
    found = [()]
    for shift in range(shifts):
        found = found + [chosen + (shift,) for chosen in found]
    return found


def next_shifts(rule, shifts):
    """Returns the ascending tuple of the shifts to which a step leads from one of the shifts."""
    return tuple(sorted(set([j for i, j in steps_of(rule) if i in shifts])))


def is_barrier(rule, sums, value):
    """Tells whether the value is a barrier for the sums."""
    if not is_set_of(value, rule[0]):
        return False
    rows, columns = sums
    return sum([rows[i] for i in value]) > sum([columns[j] for j in next_shifts(rule, value)])


def table_for(rule, sums):
    """Returns a table with these sums, or None."""
    return cheapest(unpriced(rule), sums)


def barrier_for(rule, sums):
    """Returns a barrier for the sums, or None."""
    for chosen in all_sets(rule[0]):
        if is_barrier(rule, sums, chosen):
            return chosen
    return None
