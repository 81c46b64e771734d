"""Claims, and the certificates that decide them."""

from swaprings.choices import require_options
from swaprings.deciding import verdict_and_paper
from swaprings.deeds import are_people_of_rules
from swaprings.errors import InvalidClaim, InvalidOptions, InvalidPlan, InvalidRota, InvalidTable
from swaprings.plans import is_endless, require_plan
from swaprings.rounds import MOST_ROWS, is_row, require_rota
from swaprings.rules import is_rule, steps_of
from swaprings.tables import are_sums, require_table, sums_of
from swaprings.values import MOST_PEOPLE, is_pair_of_shifts, is_set_of, is_tuple_of, is_whole

FEWEST_IN_RING = 2
MOST_IN_RING = 5
MOST_PEOPLE_ON_WAY = 6
MOST_PRICE_OF_TABLE = 10 ** 33
MOST_COST_OF_CHOICE = 594


def require_claim(claim):
    """Raises InvalidClaim if the claim is none, or not a valid one."""
    if not _is_claim(claim):
        raise InvalidClaim()


def decide(claim):
    """Returns a certificate that the checker accepts, raises InvalidClaim if the claim is none."""
    require_claim(claim)
    verdict, paper = verdict_and_paper(claim)
    return verdict, claim, paper


def _is_claim(value):
    if not isinstance(value, tuple) or value == () or not isinstance(value[0], str) or value[0] not in VALID:
        return False
    is_valid = VALID[value[0]]
    return is_valid(value)


def _is_order(claim):
    return is_tuple_of(claim, 2) and is_rule(claim[1])


def _is_crew(claim):
    return is_tuple_of(claim, 3) and is_rule(claim[1]) and _is_ring_size(claim[2])


def _is_ring_size(value):
    return is_whole(value, FEWEST_IN_RING, MOST_IN_RING)


def _is_joined(claim):
    if not is_tuple_of(claim, 4) or not is_rule(claim[1]):
        return False
    return is_whole(claim[2], 0, MOST_PEOPLE) and _is_ring_size(claim[3])


def _is_way(claim):
    if not is_tuple_of(claim, 5) or not is_rule(claim[1]):
        return False
    _, rule, table, other, most = claim
    if not _is_table(rule, table) or not _is_table(rule, other) or not _is_ring_size(most):
        return False
    return sums_of(table) == sums_of(other) and sum(sums_of(table)[0]) <= MOST_PEOPLE_ON_WAY


def _is_table(rule, value):
    try:
        require_table(rule, value)
    except InvalidTable:
        return False
    return True


def _is_rule_with_sums(rule, sums):
    return is_rule(rule) and are_sums(sums, rule[0])


def _is_none_or_whole(value, least, most):
    return value is None or is_whole(value, least, most)


def _is_table_claim(claim):
    return is_tuple_of(claim, 3) and _is_rule_with_sums(claim[1], claim[2])


def _is_price(claim):
    if not is_tuple_of(claim, 4) or not _is_rule_with_sums(claim[1], claim[2]):
        return False
    return _is_none_or_whole(claim[3], -MOST_PRICE_OF_TABLE, MOST_PRICE_OF_TABLE)


def _is_limit(claim):
    if not is_tuple_of(claim, 5) or not _is_rule_with_sums(claim[1], claim[2]):
        return False
    _, rule, _, step, many = claim
    # True and False are not shifts, though to Python they are among the steps.
    if not is_pair_of_shifts(step, rule[0]) or step not in steps_of(rule):
        return False
    return _is_none_or_whole(many, 0, MOST_PEOPLE)


def _is_mend(claim):
    if not is_tuple_of(claim, 4) or not is_rule(claim[1]):
        return False
    try:
        require_options(claim[1], claim[2])
    except InvalidOptions:
        return False
    return _is_none_or_whole(claim[3], 0, MOST_COST_OF_CHOICE)


def _is_plan(value):
    try:
        require_plan(value)
    except InvalidPlan:
        return False
    return True


def _is_plan_claim(claim):
    return is_tuple_of(claim, 2) and _is_plan(claim[1])


def _is_row_claim(claim):
    if not is_tuple_of(claim, 3) or not _is_plan(claim[1]):
        return False
    needs, rules = claim[1]
    return is_row(claim[2], len(needs), rules[0][0])


def _is_rounds(claim):
    if not is_tuple_of(claim, 4) or not _is_plan(claim[1]) or not is_endless(claim[1]):
        return False
    try:
        require_rota(claim[1], claim[2])
    except InvalidRota:
        return False
    return is_whole(claim[3], 1, MOST_ROWS)


def _is_have(claim):
    if not is_tuple_of(claim, 7):
        return False
    _, rules, rows, absent, person, day, shift = claim
    if not are_people_of_rules(rules, rows) or not is_set_of(absent, len(rows)):
        return False
    if not is_whole(person, 0, len(rows) - 1) or person in absent:
        return False
    return is_whole(day, 0, len(rules)) and is_whole(shift, 0, rules[0][0] - 1)


VALID = {
    "order": _is_order, "crew": _is_crew, "joined": _is_joined, "way": _is_way, "table": _is_table_claim,
    "price": _is_price, "most": _is_limit, "least": _is_limit, "mend": _is_mend, "plan": _is_plan_claim,
    "row": _is_row_claim, "rounds": _is_rounds, "have": _is_have,
}
