"""Rotas of endless plans, the rounds that their rows go, and how few there can be."""

from swaprings.errors import InvalidRota, NotTogether
from swaprings.rules import steps_of
from swaprings.tables import sums_of
from swaprings.values import is_tuple_of, is_whole

MOST_ROWS = 40


def require_rota(plan, value):
    """Returns the value if it is a rota of the endless plan, raises InvalidRota otherwise."""
    if not _has_form(value):
        raise InvalidRota(None)
    rows, follow = value
    shifts = plan[1][0][0]
    for r, row in enumerate(rows):
        if not is_row(row, len(plan[0]), shifts):
            raise InvalidRota(("row", r))
    if not _has_each_index(follow):
        raise InvalidRota(("follow",))
    allowed = [steps_of(rule) for rule in plan[1]]
    for r in range(len(rows)):
        for t, step in enumerate(_steps_from(value, r)):
            if step not in allowed[t]:
                raise InvalidRota(("step", r, t))
    for t, table in enumerate(tables_of(plan, value)):
        if sums_of(table)[0] != plan[0][t]:
            raise InvalidRota(("need", t))
    return value


def _has_form(value):
    if not is_tuple_of(value, 2):
        return False
    rows, follow = value
    if not isinstance(rows, tuple) or not isinstance(follow, tuple):
        return False
    return len(rows) == len(follow) and 1 <= len(rows) <= MOST_ROWS


def is_row(value, days, shifts):
    """Tells whether the value is a tuple with one of so many shifts for each of so many days."""
    if not is_tuple_of(value, days):
        return False
    return all([is_whole(shift, 0, shifts - 1) for shift in value])


def _has_each_index(follow):
    many = len(follow)
    return all([is_whole(r, 0, many - 1) for r in follow]) and len(set(follow)) == many


def _steps_from(rota, r):
    """Returns the steps of row r from each day to the next, the last one to the row that follows."""
    rows, follow = rota
    onward = rows[r][1:] + rows[follow[r]][:1]
    return list(zip(rows[r], onward))


def tables_of(plan, rota):
    """Returns the rota's tables, one for each rule of the plan."""
    shifts = plan[1][0][0]
    tables = [[[0] * shifts for _ in range(shifts)] for _ in plan[1]]
    for r in range(len(rota[0])):
        for t, (i, j) in enumerate(_steps_from(rota, r)):
            tables[t][i][j] = tables[t][i][j] + 1
    return tuple([tuple([tuple(row) for row in table]) for table in tables])


def rounds(rota):
    """Returns the number of the rota's rounds."""
    return len(set(_names_of_rounds(rota[1])))


def _names_of_rounds(follow):
    """Returns for each row the least row of its round."""
    names = [None] * len(follow)
    for start in range(len(follow)):
        r = start
        while names[r] is None:
            names[r] = start
            r = follow[r]
    return names


def places_of(plan):
    """Returns the ascending list of the places of the plan."""
    return [(t, i) for t, need in enumerate(plan[0]) for i, many in enumerate(need) if many > 0]


def joins(plan, rota):
    """Returns the ascending list of the pairs of places from the one to the other of which a used step leads."""
    days = len(plan[0])
    return sorted(set([
        ((t, i), ((t + 1) % days, j))
        for r in range(len(rota[0])) for t, (i, j) in enumerate(_steps_from(rota, r))
    ]))


def pieces(plan, rota):
    """Returns the tuple of the pieces, each an ascending tuple of places, ordered by their first ones."""
    names = {place: place for place in places_of(plan)}
    for place, other in joins(plan, rota):
        low, high = sorted([names[place], names[other]])
        names = {held: low if name == high else name for held, name in names.items()}
    firsts = sorted(set(list(names.values())))
    return tuple([tuple([held for held in sorted(names) if names[held] == first]) for first in firsts])


def rota_changed(rota, day, one, other):
    """Returns the rota behind the change of two rows on the day, raises NotTogether for unlike shifts."""
    rows, follow = list(rota[0]), list(rota[1])
    first, second = rows[one], rows[other]
    if first[day] != second[day]:
        raise NotTogether()
    rows[one] = first[:day + 1] + second[day + 1:]
    rows[other] = second[:day + 1] + first[day + 1:]
    follow[one], follow[other] = follow[other], follow[one]
    return tuple(rows), tuple(follow)


def fewest_rounds(rota):
    """Returns a rota with the same tables and the least number of rounds, and the changes that lead to it."""
    changes = []
    change = _joining_change(rota)
    while change is not None:
        day, one, other = change
        rota = rota_changed(rota, day, one, other)
        changes.append(change)
        change = _joining_change(rota)
    return rota, tuple(changes)


def _joining_change(rota):
    """Returns the first (day, one, other) with two rows of unlike rounds on the same shift, or None."""
    rows = rota[0]
    names = _names_of_rounds(rota[1])
    for day in range(len(rows[0])):
        firsts = {}
        for r, row in enumerate(rows):
            one = firsts.setdefault(row[day], r)
            if names[one] != names[r]:
                return day, one, r
    return None
