"""The shapes of the papers: which kinds of values stand where, whether or not they are right."""

from swaprings.choices import is_choice, rule_with
from swaprings.orders import has_each_step
from swaprings.prices import have_potentials_form
from swaprings.rings import FEWEST_IN_BARE_RING
from swaprings.tables import first_barred, sums_of
from swaprings.values import (
    MOST_PEOPLE, are_counts, is_ascending, is_pair_of_shifts, is_set_of, is_tuple_of, is_whole,
)

MOST_TURNS = 500
MOST_TRAILS = 300
MOST_TABLES = 1000
MOST_CHANGES = 100
MOST_DEEDS = 100


def has_shape(verdict, claim, paper):
    """Tells whether the paper has the shape for the valid claim and the verdict."""
    fits = SHAPES[claim[0]]
    return fits(claim, verdict == "shown", paper)


def _order(claim, is_shown, paper):
    if is_shown:
        return has_each_step(claim[1], paper)
    return _is_stuck_set(paper, claim[1][0])


def _is_stuck_set(value, shifts):
    if not isinstance(value, tuple) or value == ():
        return False
    if not all([_is_step_with_four(row, shifts) for row in value]):
        return False
    return is_ascending(tuple([row[:2] for row in value]))


def _is_step_with_four(value, shifts):
    if not is_tuple_of(value, 4) or not all([is_whole(shift, 0, shifts - 1) for shift in value]):
        return False
    i, j, k, l = value
    return k != i and l != j


def _are_stuck_sets(value, shifts):
    return isinstance(value, tuple) and all([_is_stuck_set(rows, shifts) for rows in value])


def _crew(claim, is_shown, paper):
    _, rule, many = claim
    if not is_tuple_of(paper, 2):
        return False
    first, second = paper
    if is_shown:
        rings = 1 if many >= FEWEST_IN_BARE_RING else 0
        if not is_tuple_of(first, rings) or not all([_is_ring(ring, rule[0]) for ring in first]):
            return False
        return _is_list(second, rule[0])
    if first == "more":
        return _is_ring(second, rule[0])
    return first == "fewer" and many >= FEWEST_IN_BARE_RING and _is_list(second, rule[0])


def _is_ring(value, shifts):
    if not isinstance(value, tuple) or value == ():
        return False
    return all([is_pair_of_shifts(step, shifts) for step in value])


def _is_list(value, shifts):
    """Tells whether the value has the shape of a list of trails."""
    if not isinstance(value, tuple) or len(value) > MOST_TRAILS:
        return False
    return all([_is_trail(trail, shifts) for trail in value]) and is_ascending(value)


def _is_trail(value, shifts):
    if not isinstance(value, tuple) or value == ():
        return False
    return all([is_whole(shift, 0, shifts - 1) for shift in value])


def _joined(claim, is_shown, paper):
    shifts = claim[1][0]
    return _is_list(paper, shifts) if is_shown else _is_ring(paper, shifts)


def _way(claim, is_shown, paper):
    if not isinstance(paper, tuple):
        return False
    shifts = claim[1][0]
    if is_shown:
        return len(paper) <= MOST_TURNS and all([_is_turn(turn, shifts) for turn in paper])
    if not 1 <= len(paper) <= MOST_TABLES or not all([_is_table(table, shifts) for table in paper]):
        return False
    return is_ascending(paper) and all([_is_table_with(claim[1], table, sums_of(claim[2])) for table in paper])


def _is_turn(value, shifts):
    return is_tuple_of(value, 2) and _is_ring(value[0], shifts) and is_whole(value[1], 1, MOST_PEOPLE)


def _is_table(value, shifts):
    return is_tuple_of(value, shifts) and all([are_counts(row, shifts) for row in value])


def _is_table_with(rule, table, sums):
    """Tells whether what has the shape of a table is one of the rule with these sums."""
    return first_barred(rule, table) is None and sums_of(table) == sums


def _table(claim, is_shown, paper):
    shifts = claim[1][0]
    return _is_table(paper, shifts) if is_shown else is_set_of(paper, shifts)


def _number(claim, is_shown, paper):
    """Price, most and least: the last part of the claim is a number, or None."""
    shifts, number = claim[1][0], claim[-1]
    if is_shown and number is None:
        return is_set_of(paper, shifts)
    if not is_tuple_of(paper, 2):
        return False
    first, second = paper
    if is_shown and claim[0] == "least" and number == 0:
        return _is_table(first, shifts) and second == ()
    if is_shown:
        return _is_table(first, shifts) and _is_bounding(claim, second)
    if first == "table":
        return _is_table(second, shifts)
    if number is None:
        return False
    if first == "none":
        return is_set_of(second, shifts)
    return first == "bound" and _is_bounding(claim, second)


def _is_bounding(claim, value):
    """Tells whether the value has the shape of potentials, or of a set with or without the step's first shift."""
    kind, shifts = claim[0], claim[1][0]
    if kind == "price":
        return have_potentials_form(value, shifts)
    return is_set_of(value, shifts) and (claim[3][0] in value) == (kind == "least")


def _mend(claim, is_shown, paper):
    _, rule, options, cost = claim
    if is_shown and cost is None:
        return _are_stuck_sets(paper, rule[0])
    if is_shown:
        if not is_tuple_of(paper, 3) or not _are_stuck_sets(paper[2], rule[0]):
            return False
        return _is_choice_with_order(rule, options, paper[0], paper[1])
    if is_tuple_of(paper, 3):
        return paper[0] == "less" and _is_choice_with_order(rule, options, paper[1], paper[2])
    if not is_tuple_of(paper, 2) or paper[0] != "more":
        return False
    return cost is not None and _are_stuck_sets(paper[1], rule[0])


def _is_choice_with_order(rule, options, choice, order):
    return is_choice(options, choice) and has_each_step(rule_with(rule, options, choice), order)


def _plan(claim, is_shown, paper):
    if is_shown:
        return _is_roster(paper, claim[1])
    return is_tuple_of(paper, 2) and _is_set_of_rule(paper[0], paper[1], claim[1][1])


def _is_roster(value, plan):
    rules = plan[1]
    return is_tuple_of(value, len(rules)) and all([_is_table(table, rules[0][0]) for table in value])


def _is_set_of_rule(t, value, rules):
    return is_whole(t, 0, len(rules) - 1) and is_set_of(value, rules[0][0])


def _row(claim, is_shown, paper):
    _, plan, row = claim
    if is_shown:
        return _is_roster(paper, plan)
    if is_tuple_of(paper, 3):
        return paper[0] == "barrier" and _is_set_of_rule(paper[1], paper[2], plan[1])
    if not is_tuple_of(paper, 2):
        return False
    if paper[0] == "step":
        return is_whole(paper[1], 0, len(row) - 2)
    return paper[0] == "short" and is_whole(paper[1], 0, len(row) - 1)


def _rounds(claim, is_shown, paper):
    _, plan, rota, _ = claim
    if not is_tuple_of(paper, 2):
        return False
    first, second = paper
    if is_shown:
        return _are_changes(first, rota) and _are_pieces(second, plan)
    if first == "fewer":
        return _are_changes(second, rota)
    return first == "more" and _are_pieces(second, plan)


def _are_changes(value, rota):
    if not isinstance(value, tuple) or len(value) > MOST_CHANGES:
        return False
    return all([_is_change(change, rota[0]) for change in value])


def _is_change(value, rows):
    if not is_tuple_of(value, 3) or not is_whole(value[0], 0, len(rows[0]) - 1):
        return False
    return all([is_whole(index, 0, len(rows) - 1) for index in value[1:]])


def _are_pieces(value, plan):
    return isinstance(value, tuple) and all([_is_piece(piece, plan) for piece in value])


def _is_piece(value, plan):
    if not isinstance(value, tuple) or value == ():
        return False
    return all([_is_place(place, plan) for place in value]) and is_ascending(value)


def _is_place(value, plan):
    if not is_tuple_of(value, 2) or not is_whole(value[0], 0, len(plan[0]) - 1):
        return False
    return is_whole(value[1], 0, len(plan[0][0]) - 1)


def _have(claim, is_shown, paper):
    _, rules, rows, _, _, day, _ = claim
    if is_shown:
        if not isinstance(paper, tuple) or len(paper) > MOST_DEEDS:
            return False
        return all([_is_deed(deed, rows) for deed in paper])
    if not is_tuple_of(paper, 2) or not is_tuple_of(paper[0], day + 1) or not isinstance(paper[1], tuple):
        return False
    sets, blocks = paper
    if not all([is_set_of(chosen, rules[0][0]) for chosen in sets]):
        return False
    return all([_is_block(block, rules) for block in blocks]) and is_ascending(tuple([block[:3] for block in blocks]))


def _is_deed(value, rows):
    if not is_tuple_of(value, 2) or not is_whole(value[0], 0, len(rows[0]) - 2):
        return False
    people = value[1]
    if not isinstance(people, tuple) or not 2 <= len(people) <= len(rows):
        return False
    return all([is_whole(person, 0, len(rows) - 1) for person in people]) and len(set(people)) == len(people)


def _is_block(value, rules):
    """Tells whether the value has the shape of a barred way out: a rule, a pair of shifts, a set without the first."""
    if not is_tuple_of(value, 4) or not is_pair_of_shifts(value[1:3], rules[0][0]):
        return False
    return _is_set_of_rule(value[0], value[3], rules) and value[1] not in value[3]


SHAPES = {
    "order": _order, "crew": _crew, "joined": _joined, "way": _way, "table": _table, "price": _number, "most": _number,
    "least": _number, "mend": _mend, "plan": _plan, "row": _row, "rounds": _rounds, "have": _have,
}
