"""Tables of the least price, and the potentials that show that none costs less."""

from swaprings.rules import prices_of
from swaprings.tables import price_of_table
from swaprings.values import is_tuple_of, is_whole

MOST_POTENTIAL = 10 ** 6
# More than the steps of any path, so that a path's price always counts more than its length.
PRICE_WEIGHT = 32


def is_potentials(rule, value):
    """Tells whether the value is potentials of the rule."""
    return have_potentials_form(value, rule[0]) and first_below(rule, value) is None


def have_potentials_form(value, shifts):
    """Tells whether the value is a pair of numbers for so many shifts, as potentials are, but for the prices."""
    if not is_tuple_of(value, 2):
        return False
    for numbers in value:
        if not is_tuple_of(numbers, shifts):
            return False
        if not all([is_whole(number, -MOST_POTENTIAL, MOST_POTENTIAL) for number in numbers]):
            return False
    return True


def first_below(rule, potentials):
    """Returns the first step whose price is below what the potentials have for its shifts, or None."""
    firsts, seconds = potentials
    for i, j, price in rule[1]:
        if price < firsts[i] + seconds[j]:
            return i, j
    return None


def worth(sums, potentials):
    """Returns what the potentials are worth for the sums."""
    return sum([
        count * number
        for counts, numbers in zip(sums, potentials)
        for count, number in zip(counts, numbers)
    ])


def cheapest(rule, sums):
    """Returns a table of the least price with these sums, or None."""
    prices = prices_of(rule)
    people = {step: 0 for step in prices}
    rows, columns = list(sums[0]), list(sums[1])
    path = _cheapest_path(prices, people, rows, columns)
    while path is not None:
        _place_along(people, rows, columns, path)
        path = _cheapest_path(prices, people, rows, columns)
    if any(rows):
        return None
    shifts = range(rule[0])
    return tuple([tuple([people.get((i, j), 0) for j in shifts]) for i in shifts])


def least_price(rule, sums):
    """Returns the least price of a table with these sums, None if there is none."""
    table = cheapest(rule, sums)
    return None if table is None else price_of_table(rule, table)


def potentials_for(rule, sums):
    """Returns potentials whose worth is the least price, None if there is no table with these sums."""
    table = cheapest(rule, sums)
    if table is None:
        return None
    shifts = rule[0]
    prices = prices_of(rule)
    people = {(i, j): table[i][j] for i, j in prices}
    costs, _ = _lowered([0] * (2 * shifts), _arcs(prices, people, shifts))
    return tuple([-cost for cost in costs[:shifts]]), tuple(costs[shifts:])


def _arcs(prices, people, shifts):
    """Returns (start, end, cost) for each step that may get people, and back for each that may lose some."""
    # The columns are numbered behind the rows.
    arcs = []
    for (i, j), price in prices.items():
        arcs.append((i, shifts + j, price))
        if people[(i, j)] > 0:
            arcs.append((shifts + j, i, -price))
    return arcs


def _lowered(costs, arcs):
    """Lowers the costs along the arcs as far as they go; returns them, and whence each was lowered last."""
    costs = list(costs)
    came = [None] * len(costs)
    is_lower = True
    while is_lower:
        is_lower = False
        for start, end, cost in arcs:
            if costs[start] is None:
                continue
            if costs[end] is None or costs[start] + cost < costs[end]:
                costs[end] = costs[start] + cost
                came[end] = start
                is_lower = True
    return costs, came


def _cheapest_path(prices, people, rows, columns):
    """Returns the cheapest path from a row to a column with people who are not placed yet, or None."""
    shifts = len(rows)
    starts = [0 if many > 0 else None for many in rows]
    # Of paths that cost the same the shortest one is taken: then few are enough, however many people there are.
    arcs = [(start, end, PRICE_WEIGHT * cost + 1) for start, end, cost in _arcs(prices, people, shifts)]
    costs, came = _lowered(starts + [None] * shifts, arcs)
    ends = [
        (cost, shifts + j)
        for j, cost in enumerate(costs[shifts:]) if columns[j] > 0 and cost is not None
    ]
    if not ends:
        return None
    path = [min(ends)[1]]
    while came[path[-1]] is not None:
        path.append(came[path[-1]])
    return path[::-1]


def _place_along(people, rows, columns, path):
    """Places as many people as the path lets, each of its rows giving the column ahead for the one behind."""
    shifts = len(rows)
    first, last = path[0], path[-1] - shifts
    more = [(i, column - shifts) for i, column in zip(path[::2], path[1::2])]
    fewer = [(i, column - shifts) for column, i in zip(path[1::2], path[2::2])]
    many = min([rows[first], columns[last]] + [people[step] for step in fewer])
    for step in more:
        people[step] = people[step] + many
    for step in fewer:
        people[step] = people[step] - many
    rows[first] = rows[first] - many
    columns[last] = columns[last] - many
