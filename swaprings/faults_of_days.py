"""The faults of papers about plans, rotas and rosters of people, whose shape is right."""

from swaprings.deeds import first_barred_step, rows_behind, steps_of_deed, table_of
from swaprings.errors import NotTogether
from swaprings.faults_of_tables import barrier_fault, table_fault
from swaprings.limits import upper
from swaprings.plans import first_barred_day, first_short_day, sums_for, sums_of_others
from swaprings.rounds import joins, places_of, rota_changed, rounds
from swaprings.rules import steps_of
from swaprings.tables import sums_of


def fault_of_plan(claim, is_shown, paper):
    """Returns the first fault of a roster of a plan, or of a barrier, or None."""
    plan = claim[1]
    if is_shown:
        return _fault_of_roster(plan, [sums_for(plan, t) for t in range(len(plan[1]))], paper)
    t, chosen = paper
    return barrier_fault(plan[1][t], sums_for(plan, t), chosen)


def _fault_of_roster(plan, all_sums, tables):
    for t, table in enumerate(tables):
        fault = table_fault(plan[1][t], all_sums[t], table)
        if fault is not None:
            return "table", t, fault
    return None


def fault_of_row(claim, is_shown, paper):
    """Returns the first fault of a roster of the others, or of what keeps a row from fitting, or None."""
    _, plan, row = claim
    if is_shown:
        return _fault_of_others(plan, row, paper)
    if paper[0] == "step":
        t = paper[1]
        return ("step",) if (row[t], row[t + 1]) in steps_of(plan[1][t]) else None
    if paper[0] == "short":
        t = paper[1]
        return ("short",) if plan[0][t][row[t]] > 0 else None
    _, t, chosen = paper
    return barrier_fault(plan[1][t], sums_of_others(plan, row, t), chosen)


def _fault_of_others(plan, row, tables):
    barred = first_barred_day(plan, row)
    if barred is not None:
        return "step", barred
    short = first_short_day(plan, row)
    if short is not None:
        return "short", short
    return _fault_of_roster(plan, [sums_of_others(plan, row, t) for t in range(len(plan[1]))], tables)


def fault_of_rounds(claim, is_shown, paper):
    """Returns the first fault of changes and pieces, or None."""
    _, plan, rota, many = claim
    if is_shown:
        changes, pieces = paper
        fault = _fault_of_changes(rota, changes, many, many)
        if fault is not None:
            return fault
        return _fault_of_pieces(plan, rota, pieces, len(pieces) == many)
    word, value = paper
    if word == "fewer":
        return _fault_of_changes(rota, value, 1, many - 1)
    return _fault_of_pieces(plan, rota, value, len(value) > many)


def _fault_of_changes(rota, changes, least, most):
    for k, (day, one, other) in enumerate(changes):
        if one == other:
            return "change", k
        try:
            rota = rota_changed(rota, day, one, other)
        except NotTogether:
            return "change", k
    return None if least <= rounds(rota) <= most else ("rounds",)


def _fault_of_pieces(plan, rota, pieces, is_count):
    places = places_of(plan)
    piece_of = {}
    for k, piece in enumerate(pieces):
        for place in piece:
            if place not in places or place in piece_of:
                return "place", k
        for place in piece:
            piece_of[place] = k
    if len(piece_of) < len(places):
        return ("lacks",)
    joined = [sorted([piece_of[place], piece_of[other]]) for place, other in joins(plan, rota)]
    apart = [(low, high) for low, high in joined if low != high]
    if apart:
        return ("joined",) + min(apart)
    return None if is_count else ("count",)


def fault_of_have(claim, is_shown, paper):
    """Returns the first fault of deeds, or of sets and what keeps the person in them, or None."""
    _, rules, rows, absent, person, day, shift = claim
    if is_shown:
        return _fault_of_deeds(claim, paper)
    sets, blocks = paper
    if rows[person][0] not in sets[0]:
        return ("start",)
    if shift in sets[day]:
        return ("shift",)
    needed = _ways_out(rules, sets)
    held = [block[:3] for block in blocks]
    for way_out in needed:
        if way_out not in held:
            return ("wall",) + way_out
    for k, block in enumerate(held):
        if block not in needed:
            return "more", k
    taking = [other for other in range(len(rows)) if other not in absent]
    for k, (t, i, j, chosen) in enumerate(blocks):
        if upper(rules[t], sums_of(table_of(rules, rows, taking, t)), (i, j), chosen) != 0:
            return "bound", k
    return None


def _fault_of_deeds(claim, deeds):
    _, rules, rows, absent, person, day, shift = claim
    for k, (behind, people) in enumerate(deeds):
        if any([other in absent for other in people]):
            return "deed", k
        if first_barred_step(rules[behind], steps_of_deed(rows, behind, people)) is not None:
            return "deed", k
        rows = rows_behind(rows, behind, people)
    return None if rows[person][day] == shift else ("shift",)


def _ways_out(rules, sets):
    """Returns the ascending list of all (t, i, j) by which a step leads from a set of shifts out of the next one."""
    return [
        (t, i, j) for t in range(len(sets) - 1)
        for i, j in steps_of(rules[t]) if i in sets[t] and j not in sets[t + 1]
    ]
