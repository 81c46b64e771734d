"""The verdict that is due to each claim, and the paper that shows it."""

from swaprings.barriers import all_sets, barrier_for, table_for
from swaprings.choices import cheapest_choice, choices, cost_of, rule_with
from swaprings.deeds import ANY_NUMBER, deeds_to_shift, shifts_in_reach, table_of
from swaprings.limits import MOST, bound_at, is_beyond, least_of, most_of, table_at, upper
from swaprings.orders import four_against, least_order, stuck_steps
from swaprings.plans import (
    first_barred_day, first_barrier, first_barrier_of_others, first_short_day, roster_for, roster_of_others,
)
from swaprings.prices import cheapest, least_price, potentials_for
from swaprings.rings import LEAST_CREW, bare_rings, trails
from swaprings.rounds import fewest_rounds, pieces
from swaprings.rules import steps_of
from swaprings.tables import sums_of
from swaprings.thresholds import parting_ring
from swaprings.ways import reached, way_within


def verdict_and_paper(claim):
    """Returns the verdict that is due to the valid claim, and a paper for it."""
    decided = DECIDED[claim[0]]
    return decided(claim)


def _order(claim):
    order = least_order(claim[1])
    if order is None:
        return "broken", _stuck_rows(claim[1])
    return "shown", order


def _stuck_rows(rule):
    """Returns the greatest stuck set with a four against each of its steps."""
    steps = stuck_steps(rule)
    return tuple([step + four_against(rule, steps, step) for step in steps])


def _crew(claim):
    _, rule, many = claim
    rings = bare_rings(rule)
    greater = [ring for ring in rings if len(ring) > many]
    if greater:
        return "broken", ("more", greater[0])
    equal = [ring for ring in rings if len(ring) == many]
    if many > LEAST_CREW and not equal:
        return "broken", ("fewer", trails(rule, rule[0]))
    return "shown", (tuple(equal[:1]), trails(rule, rule[0]))


def _joined(claim):
    _, rule, people, most = claim
    ring = parting_ring(rule, people, most)
    if ring is not None:
        return "broken", ring
    # Even for nobody the list begins with each shift alone.
    return "shown", trails(rule, max(1, min(people, rule[0])))


def _way(claim):
    _, rule, table, other, most = claim
    way = way_within(rule, table, other, most)
    if way is None:
        return "broken", reached(rule, table, most)
    return "shown", way


def _table(claim):
    _, rule, sums = claim
    barrier = barrier_for(rule, sums)
    if barrier is not None:
        return "broken", barrier
    return "shown", table_for(rule, sums)


def _price(claim):
    _, rule, sums, price = claim
    barrier = barrier_for(rule, sums)
    if barrier is not None:
        return _none_shown(price, barrier)
    least = least_price(rule, sums)
    if price is None or least < price:
        return "broken", ("table", cheapest(rule, sums))
    if least > price:
        return "broken", ("bound", potentials_for(rule, sums))
    return "shown", (cheapest(rule, sums), potentials_for(rule, sums))


def _none_shown(number, barrier):
    """Returns what the barrier shows of a claim that tells this number, or None if it tells that there is no table."""
    if number is None:
        return "shown", barrier
    return "broken", ("none", barrier)


def _limit(claim):
    """The most and the least of a step."""
    kind, rule, sums, step, many = claim
    barrier = barrier_for(rule, sums)
    if barrier is not None:
        return _none_shown(many, barrier)
    right = most_of(rule, sums, step) if kind == MOST else least_of(rule, sums, step)
    table = table_at(kind, rule, sums, step)
    if many is None or is_beyond(kind, right, many):
        return "broken", ("table", table)
    if kind != MOST and right == 0:
        return "shown", (table, ())
    sets = [chosen for chosen in all_sets(rule[0]) if (step[0] in chosen) == (kind != MOST)]
    bounding = [chosen for chosen in sets if bound_at(kind, rule, sums, step, chosen) == right][0]
    if many != right:
        return "broken", ("bound", bounding)
    return "shown", (table, bounding)


def _mend(claim):
    _, rule, options, cost = claim
    choice = cheapest_choice(rule, options)
    if choice is None:
        return _no_choice(claim)
    least = cost_of(options, choice)
    order = least_order(rule_with(rule, options, choice))
    if cost is None or least < cost:
        return "broken", ("less", choice, order)
    if least > cost:
        return "broken", ("more", _stuck_sets(rule, options, cost))
    return "shown", (choice, order, _stuck_sets(rule, options, cost - 1))


def _no_choice(claim):
    """Returns the verdict and the paper for a rule to which no choice gives an order."""
    _, rule, options, cost = claim
    if cost is None:
        every = sum([option[3] for option in options])
        return "shown", _stuck_sets(rule, options, every)
    return "broken", ("more", _stuck_sets(rule, options, cost))


def _stuck_sets(rule, options, most):
    """Returns a stuck set for each choice that costs at most so much."""
    rules = [rule_with(rule, options, choice) for choice in choices(options) if cost_of(options, choice) <= most]
    return tuple([_stuck_rows(changed) for changed in rules])


def _plan(claim):
    barrier = first_barrier(claim[1])
    if barrier is not None:
        return "broken", barrier
    return "shown", roster_for(claim[1])


def _row(claim):
    _, plan, row = claim
    barred = first_barred_day(plan, row)
    if barred is not None:
        return "broken", ("step", barred)
    short = first_short_day(plan, row)
    if short is not None:
        return "broken", ("short", short)
    barrier = first_barrier_of_others(plan, row)
    if barrier is not None:
        return "broken", ("barrier", barrier[0], barrier[1])
    return "shown", roster_of_others(plan, row)


def _rounds(claim):
    _, plan, rota, many = claim
    found = pieces(plan, rota)
    if len(found) > many:
        return "broken", ("more", found)
    _, changes = fewest_rounds(rota)
    if len(found) < many:
        return "broken", ("fewer", changes)
    return "shown", (changes, found)


def _have(claim):
    _, rules, rows, absent, person, day, shift = claim
    taking = [other for other in range(len(rows)) if other not in absent]
    sets = shifts_in_reach(rules, rows, taking, person, day)
    if shift in sets[day]:
        return "shown", deeds_to_shift(rules, rows, taking, ANY_NUMBER, (person, day, shift))
    found = []
    for t in range(day):
        sums = sums_of(table_of(rules, rows, taking, t))
        for step in steps_of(rules[t]):
            if step[0] in sets[t] and step[1] not in sets[t + 1]:
                found.append((t, step[0], step[1], _closing_set(rules[t], sums, step)))
    return "broken", (sets, tuple(found))


def _closing_set(rule, sums, step):
    """Returns a set of shifts whose upper bound for the step is 0; nobody can be on it."""
    sets = [chosen for chosen in all_sets(rule[0]) if step[0] not in chosen]
    return [chosen for chosen in sets if upper(rule, sums, step, chosen) == 0][0]


DECIDED = {
    "order": _order, "crew": _crew, "joined": _joined, "way": _way, "table": _table, "price": _price, "most": _limit,
    "least": _limit, "mend": _mend, "plan": _plan, "row": _row, "rounds": _rounds, "have": _have,
}
