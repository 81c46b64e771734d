"""The faults of papers about tables, ways, potentials and bounds, whose shape is right."""

from swaprings.barriers import is_barrier
from swaprings.errors import CannotTurn
from swaprings.limits import bound_at, is_beyond
from swaprings.prices import first_below, worth
from swaprings.rules import prices_of, steps_of
from swaprings.tables import first_barred, price_of_table, sums_of, turned


def fault_of_way(claim, is_shown, paper):
    """Returns the first fault of a way, or of tables that no ring leaves, or None."""
    _, rule, table, other, most = claim
    if is_shown:
        return _fault_of_turns(rule, table, other, most, paper)
    held = {told: True for told in paper}
    if table not in held:
        return ("start",)
    for t, told in enumerate(paper):
        for ring in _rings_in(rule, told, most):
            if turned(rule, told, ring, 1) not in held:
                return "leads", t, ring
    return ("end",) if other in held else None


def _fault_of_turns(rule, table, other, most, way):
    for t, (ring, times) in enumerate(way):
        if len(ring) > most:
            return "turn", t
        try:
            table = turned(rule, table, ring, times)
        except CannotTurn:
            return "turn", t
    return None if table == other else ("end",)


def _rings_in(rule, table, most):
    """Returns the ascending list of the rings of at most most people that can be done in the table."""
    allowed = prices_of(rule)
    held = [(i, j) for i, j in steps_of(rule) if table[i][j] > 0]
    found = []
    newest = [(step,) for step in held]
    for _ in range(most - 1):
        newest = [begun + (step,) for begun in newest for step in held if _goes_on(allowed, begun, step)]
        found.extend([ring for ring in newest if (ring[-1][0], ring[0][1]) in allowed])
    return sorted(found)


def _goes_on(allowed, begun, step):
    """Tells whether the step can stand behind those of a ring that is begun."""
    i, j = step
    if i < begun[0][0] or i in [first for first, _ in begun] or j in [second for _, second in begun]:
        return False
    return (begun[-1][0], j) in allowed


def fault_of_table_claim(claim, is_shown, paper):
    """Returns the first fault of a table or a barrier, or None."""
    _, rule, sums = claim
    if is_shown:
        return table_fault(rule, sums, paper)
    return barrier_fault(rule, sums, paper)


def table_fault(rule, sums, table):
    """Returns the first fault of a table that shall be one of the rule with these sums, or None."""
    barred = first_barred(rule, table)
    if barred is not None:
        return ("barred",) + barred
    rows, columns = sums_of(table)
    for i, many in enumerate(rows):
        if many != sums[0][i]:
            return "row", i
    for j, many in enumerate(columns):
        if many != sums[1][j]:
            return "column", j
    return None


def barrier_fault(rule, sums, chosen):
    """Returns the fault of a set that shall be a barrier, or None."""
    return None if is_barrier(rule, sums, chosen) else ("barrier",)


def fault_of_price(claim, is_shown, paper):
    """Returns the first fault of a table and potentials, or of a barrier, or None."""
    _, rule, sums, price = claim
    if is_shown and price is None:
        return barrier_fault(rule, sums, paper)
    if is_shown:
        table, potentials = paper
        fault = table_fault(rule, sums, table)
        if fault is not None:
            return fault
        if price_of_table(rule, table) != price:
            return ("price",)
        return _fault_of_potentials(rule, potentials, worth(sums, potentials) == price)
    word, value = paper
    if word == "none":
        return barrier_fault(rule, sums, value)
    if word == "bound":
        return _fault_of_potentials(rule, value, worth(sums, value) > price)
    fault = table_fault(rule, sums, value)
    if fault is not None:
        return fault
    return None if price is None or price_of_table(rule, value) < price else ("price",)


def _fault_of_potentials(rule, potentials, is_worth):
    step = first_below(rule, potentials)
    if step is not None:
        return ("step",) + step
    return None if is_worth else ("worth",)


def fault_of_limit(claim, is_shown, paper):
    """Returns the first fault of a table and a set that bounds the step's most or least, or of a barrier, or None."""
    kind, rule, sums, (i, j), many = claim
    if is_shown and many is None:
        return barrier_fault(rule, sums, paper)
    if is_shown:
        table, chosen = paper
        # Without shifts the lower bound is 0, so the least 0 needs no other one.
        is_bound = bound_at(kind, rule, sums, (i, j), chosen) == many
        return _fault_of_counted(rule, sums, table, table[i][j] == many, is_bound)
    word, value = paper
    if word == "none":
        return barrier_fault(rule, sums, value)
    if word == "bound":
        return None if is_beyond(kind, many, bound_at(kind, rule, sums, (i, j), value)) else ("bound",)
    return _fault_of_counted(rule, sums, value, many is None or is_beyond(kind, value[i][j], many), True)


def _fault_of_counted(rule, sums, table, is_count, is_bound):
    fault = table_fault(rule, sums, table)
    if fault is not None:
        return fault
    if not is_count:
        return ("count",)
    return None if is_bound else ("bound",)
