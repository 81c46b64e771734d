"""Ways of turns from table to table."""

from swaprings.errors import CannotTurn
from swaprings.rings import bare_rings, begun_at_least, chords, halves
from swaprings.rules import steps_of
from swaprings.tables import cells_between, steps_behind, turned
from swaprings.values import MOST_PEOPLE


def calm_way(rule, order, table):
    """Returns a calm way from the table to the one that is filled by the order."""
    way = []
    for t, (i, j) in enumerate(order):
        later = order[t + 1:]
        # Nobody on a later step of the row or nobody on one of the column is left behind these
        # turns, so the step has as many people as it is filled with.
        for l in [second for first, second in later if first == i]:
            for k in [first for first, second in later if second == j]:
                ring = begun_at_least(((i, l), (k, j)))
                times = _most_times(table, ring)
                while times > 0:
                    table = turned(rule, table, ring, times)
                    way.append((ring, times))
                    times = _most_times(table, ring)
    return tuple(way)


def _most_times(table, ring):
    """Returns how many times the ring can be done in one turn."""
    return min([MOST_PEOPLE] + [table[i][j] for i, j in ring])


def way_between(rule, table, other, most):
    """Returns a way of rings of at most most people from the table to the other one."""
    way = []
    for ring, times in agreeing_turns(cells_between(table, other)):
        way.extend([(part, times) for part in parts_of(rule, ring, most)])
    return tuple(way)


def parts_of(rule, ring, most):
    """Returns rings of at most most people that do the same as the ring, one after the other."""
    if len(ring) <= most:
        return [ring]
    first, second = halves(rule, ring, chords(rule, ring)[0])
    return parts_of(rule, first, most) + parts_of(rule, second, most)


def agreeing_turns(cells):
    """Returns turns that agree and together add the cells to a table; each row and column has the sum 0."""
    rows = [list(row) for row in cells]
    found = []
    ring = _agreeing_ring(rows)
    while ring is not None:
        behind = steps_behind(ring)
        times = min([MOST_PEOPLE] + [-rows[i][j] for i, j in ring] + [rows[i][j] for i, j in behind])
        for i, j in ring:
            rows[i][j] = rows[i][j] + times
        for i, j in behind:
            rows[i][j] = rows[i][j] - times
        found.append((ring, times))
        ring = _agreeing_ring(rows)
    return found


def _agreeing_ring(rows):
    """Returns a ring that takes where a number is below 0 and gives where one is above 0, or None."""
    shifts = range(len(rows))
    starts = [i for i in shifts if any(rows[i])]
    if not starts:
        return None
    i = starts[0]
    steps = []
    firsts = []
    # A row leads to one column and a column to one row, so the first row that comes again ends a ring.
    while i not in firsts[:-1]:
        j = [column for column in shifts if rows[i][column] > 0][0]
        i = [row for row in shifts if rows[row][j] < 0][0]
        steps.append((i, j))
        firsts.append(i)
    return begun_at_least(tuple(steps[firsts.index(i) + 1:]))


def walked(rule, table, way):
    """Returns the table behind the way, raises CannotTurn with the first turn that cannot be done."""
    for t, (ring, times) in enumerate(way):
        try:
            table = turned(rule, table, ring, times)
        except CannotTurn:
            raise CannotTurn(t) from None
    return table


def reached(rule, table, most):
    """Returns the ascending tuple of all tables to which ways of rings of at most most people lead."""
    return tuple(sorted(_came_from(rule, table, most)))


def way_within(rule, table, other, most):
    """Returns a way of rings of at most most people from the table to the other one, or None."""
    came = _came_from(rule, table, most)
    if other not in came:
        return None
    way = []
    current = other
    while came[current] is not None:
        current, ring = came[current]
        way.append((ring, 1))
    return tuple(way[::-1])


def _came_from(rule, table, most):
    """Returns for each table that is reached the one ahead of it and the ring between, None for the table itself."""
    # What a ring with a chord does, its halves do, so only the others need to be tried.
    rings = _rings_of_two(rule) + [ring for ring in bare_rings(rule) if len(ring) <= most]
    found = {table: None}
    waiting = [table]
    while waiting:
        current = waiting.pop()
        for ring in rings:
            if not all([current[i][j] > 0 for i, j in ring]):
                continue
            after = turned(rule, current, ring, 1)
            if after not in found:
                found[after] = (current, ring)
                waiting.append(after)
    return found


def _rings_of_two(rule):
    allowed = steps_of(rule)
    return [
        ((i, j), (k, l))
        for i, j in allowed
        for k, l in allowed if k > i and l != j and (i, l) in allowed and (k, j) in allowed
    ]
