"""The checker: it goes through a certificate without search."""

from swaprings.claims import require_claim
from swaprings.errors import InvalidClaim
from swaprings.faults_of_days import fault_of_have, fault_of_plan, fault_of_rounds, fault_of_row
from swaprings.faults_of_rules import fault_of_crew, fault_of_joined, fault_of_mend, fault_of_order
from swaprings.faults_of_tables import fault_of_limit, fault_of_price, fault_of_table_claim, fault_of_way
from swaprings.papers import has_shape
from swaprings.values import is_tuple_of


def first_fault(certificate):
    """Returns the first fault of the certificate, None if it is right."""
    if not is_tuple_of(certificate, 3):
        return ("form",)
    verdict, claim, paper = certificate
    try:
        require_claim(claim)
    except InvalidClaim:
        return ("claim",)
    if verdict != "shown" and verdict != "broken":
        return ("paper",)
    if not has_shape(verdict, claim, paper):
        return ("paper",)
    return _fault_of(claim, verdict == "shown", paper)


def _fault_of(claim, is_shown, paper):
    """Returns the first fault of a paper whose shape is right, or None."""
    kind = claim[0]
    if kind == "order":
        return fault_of_order(claim, is_shown, paper)
    if kind == "crew":
        return fault_of_crew(claim, is_shown, paper)
    if kind == "joined":
        return fault_of_joined(claim, is_shown, paper)
    if kind == "mend":
        return fault_of_mend(claim, is_shown, paper)
    if kind == "way":
        return fault_of_way(claim, is_shown, paper)
    if kind == "table":
        return fault_of_table_claim(claim, is_shown, paper)
    if kind == "price":
        return fault_of_price(claim, is_shown, paper)
    if kind == "most" or kind == "least":
        return fault_of_limit(claim, is_shown, paper)
    if kind == "plan":
        return fault_of_plan(claim, is_shown, paper)
    if kind == "row":
        return fault_of_row(claim, is_shown, paper)
    if kind == "rounds":
        return fault_of_rounds(claim, is_shown, paper)
    return fault_of_have(claim, is_shown, paper)
