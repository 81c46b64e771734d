"""Sums, tables, and the rings by which people change places in a table."""

from swaprings.errors import CannotTurn, InvalidSums, InvalidTable
from swaprings.rules import steps_of
from swaprings.values import MOST_PEOPLE, are_counts, is_pair_of_shifts, is_tuple_of, is_whole


def require_sums(rule, value):
    """Returns the value if it is sums for the rule's shifts, raises InvalidSums otherwise."""
    if not are_sums(value, rule[0]):
        raise InvalidSums()
    return value


def are_sums(value, shifts):
    """Tells whether the value is sums for so many shifts."""
    if not is_tuple_of(value, 2):
        return False
    if not all([are_counts(counts, shifts) for counts in value]):
        return False
    people = sum(value[0])
    return people == sum(value[1]) and people <= MOST_PEOPLE


def require_table(rule, value):
    """Returns the value if it is a table of the rule, raises InvalidTable otherwise."""
    shifts = rule[0]
    if not is_tuple_of(value, shifts):
        raise InvalidTable(None)
    for i, row in enumerate(value):
        if not are_counts(row, shifts):
            raise InvalidTable(("row", i))
    barred = first_barred(rule, value)
    if barred is not None:
        raise InvalidTable(("barred", barred[0], barred[1]))
    if sum([sum(row) for row in value]) > MOST_PEOPLE:
        raise InvalidTable(("people",))
    return value


def first_barred(rule, rows):
    """Returns the first place, row by row, that is barred and has people, or None."""
    allowed = steps_of(rule)
    for i, row in enumerate(rows):
        for j, many in enumerate(row):
            if many > 0 and (i, j) not in allowed:
                return i, j
    return None


def sums_of(table):
    """Returns the sums of the table's rows and of its columns."""
    rows = tuple([sum(row) for row in table])
    columns = tuple([sum(column) for column in zip(*table)])
    return rows, columns


def cells_between(table, other):
    """Returns the other table less the table, place by place."""
    return added(other, table, -1)


def added(rows, others, times):
    """Returns the rows with so many times the others added, place by place."""
    return tuple([
        tuple([number + times * more for number, more in zip(row, other)]) for row, other in zip(rows, others)
    ])


def price_of_table(rule, table):
    """Returns what the people of the table cost together."""
    return sum([table[i][j] * price for i, j, price in rule[1]])


def is_ring(rule, value):
    """Tells whether the value is a ring of the rule."""
    # More steps than shifts cannot all have different first shifts.
    if not isinstance(value, tuple) or not 2 <= len(value) <= rule[0]:
        return False
    if not all([is_pair_of_shifts(step, rule[0]) for step in value]):
        return False
    firsts = [i for i, _ in value]
    seconds = [j for _, j in value]
    if len(set(firsts)) < len(value) or len(set(seconds)) < len(value):
        return False
    if firsts[0] != min(firsts):
        return False
    allowed = steps_of(rule)
    return all([step in allowed for step in value + steps_behind(value)])


def steps_behind(ring):
    """Returns the steps on which the ring's people are behind a turn, one for each of its steps."""
    seconds = [j for _, j in ring]
    return tuple([(i, j) for (i, _), j in zip(ring, seconds[1:] + seconds[:1])])


def turned(rule, table, ring, times):
    """Returns the table behind the turn (ring, times), raises CannotTurn if it cannot be done."""
    if not is_ring(rule, ring) or not is_whole(times, 1, MOST_PEOPLE):
        raise CannotTurn(-1)
    for t, (i, j) in enumerate(ring):
        if table[i][j] < times:
            raise CannotTurn(t)
    rows = [list(row) for row in table]
    for i, j in ring:
        rows[i][j] = rows[i][j] - times
    for i, j in steps_behind(ring):
        rows[i][j] = rows[i][j] + times
    return tuple([tuple(row) for row in rows])
