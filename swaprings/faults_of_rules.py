"""The faults of papers about orders, rings and trails, whose shape is right."""

from swaprings.choices import choices, cost_of, rule_with
from swaprings.orders import first_with_four, is_four
from swaprings.rings import closing_shifts, is_bare, pairs_behind
from swaprings.rules import prices_of, steps_of
from swaprings.tables import is_ring


def fault_of_order(claim, is_shown, paper):
    """Returns the first fault of an order or a stuck set, or None."""
    if is_shown:
        return _fault_with_four(claim[1], paper)
    row = _first_wrong_row(claim[1], paper)
    return None if row is None else ("four", row)


def _fault_with_four(rule, order):
    t = first_with_four(rule, order)
    return None if t is None else ("four", t)


def _first_wrong_row(rule, rows):
    """Returns the index of the first row without a step, or without a four against it among all steps of the rows."""
    allowed = steps_of(rule)
    steps = [row[:2] for row in rows if row[:2] in allowed]
    for r, row in enumerate(rows):
        if row[:2] not in allowed or not is_four(rule, steps, row[:2], row[2:]):
            return r
    return None


def fault_of_crew(claim, is_shown, paper):
    """Returns the first fault of a ring and a list of trails about the crew, or None."""
    _, rule, many = claim
    if not is_shown and paper[0] == "more":
        return _fault_of_ring(rule, paper[1], many + 1, rule[0])
    if not is_shown:
        return _fault_of_list(rule, paper[1], rule[0], many, rule[0])
    for ring in paper[0]:
        fault = _fault_of_ring(rule, ring, many, many)
        if fault is not None:
            return fault
    return _fault_of_list(rule, paper[1], rule[0], many + 1, rule[0])


def fault_of_joined(claim, is_shown, paper):
    """Returns the first fault of a ring or a list of trails about rings of some people, or None."""
    _, rule, people, most = claim
    if is_shown:
        return _fault_of_list(rule, paper, min(people, rule[0]), most + 1, people)
    return _fault_of_ring(rule, paper, most + 1, people)


def _fault_of_ring(rule, ring, least, most):
    if not is_ring(rule, ring) or not is_bare(rule, ring):
        return ("ring",)
    return None if least <= len(ring) <= most else ("crew",)


def _fault_of_list(rule, trails, upto, least, most):
    """Returns the first fault of a list that is closed up to so many and closes to no ring of these sizes, or None."""
    allowed = prices_of(rule)
    for k, trail in enumerate(trails):
        if not _is_trail(allowed, trail):
            return "trail", k
    held = {trail: True for trail in trails}
    for i in range(rule[0]):
        if (i,) not in held:
            return "start", i
    for k, trail in enumerate(trails):
        if len(trail[::2]) < upto:
            for pair in pairs_behind(rule, trail):
                if trail + pair not in held:
                    return ("next", k) + pair
    for k, trail in enumerate(trails):
        closing = closing_shifts(rule, trail)
        if least <= len(trail[::2]) <= most and closing:
            return "close", k, closing[0]
    return None


def _is_trail(allowed, shifts):
    """Tells whether the shifts are a trail of the rule whose steps are allowed."""
    firsts, seconds = shifts[::2], shifts[1::2]
    if len(firsts) == len(seconds) or firsts[0] != min(firsts):
        return False
    if len(set(firsts)) < len(firsts) or len(set(seconds)) < len(seconds):
        return False
    # Each first shift is allowed with the second ones that stand next to it, and with no other one.
    return all([
        ((i, j) in allowed) == (u in (t - 1, t)) for t, i in enumerate(firsts) for u, j in enumerate(seconds)
    ])


def fault_of_mend(claim, is_shown, paper):
    """Returns the first fault of a choice with an order and of stuck sets, or None."""
    _, rule, options, cost = claim
    if is_shown and cost is None:
        return _fault_of_sets(rule, options, list(choices(options)), paper)
    if not is_shown and paper[0] == "more":
        return _fault_of_sets(rule, options, _choices_up_to(options, cost), paper[1])
    if not is_shown:
        told = cost_of(options, paper[1])
        if cost is not None and told >= cost:
            return ("cost",)
        return _fault_with_four(rule_with(rule, options, paper[1]), paper[2])
    choice, order, sets = paper
    if cost_of(options, choice) != cost:
        return ("cost",)
    fault = _fault_with_four(rule_with(rule, options, choice), order)
    if fault is not None:
        return fault
    return _fault_of_sets(rule, options, _choices_up_to(options, cost - 1), sets)


def _choices_up_to(options, most):
    """Returns the list of the choices that cost at most so much."""
    return [choice for choice in choices(options) if cost_of(options, choice) <= most]


def _fault_of_sets(rule, options, chosen, sets):
    if len(sets) != len(chosen):
        return ("many",)
    for c, rows in enumerate(sets):
        row = _first_wrong_row(rule_with(rule, options, chosen[c]), rows)
        if row is not None:
            return "set", c, row
    return None
