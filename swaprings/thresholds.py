"""How many people must change places at once, so that all tables of so many people are joined."""

from swaprings.rings import bare_rings
from swaprings.tables import turned


def are_joined(rule, people, most):
    """Tells whether all tables of so many people are joined by rings of at most most people."""
    return parting_ring(rule, people, most) is None


def least_parted(rule, most):
    """Returns the least number of people whose tables are not joined by such rings, or None."""
    return min([len(ring) for ring in bare_rings(rule) if len(ring) > most], default=None)


def parted(rule, people, most):
    """Returns two tables of so many people that no way of such rings joins, None if all are joined."""
    ring = parting_ring(rule, people, most)
    if ring is None:
        return None
    rows = [[0] * rule[0] for _ in range(rule[0])]
    for i, j in ring:
        rows[i][j] = 1
    first, second = ring[0]
    rows[first][second] = 1 + people - len(ring)
    table = tuple([tuple(row) for row in rows])
    return table, turned(rule, table, ring, 1)


def parting_ring(rule, people, most):
    """Returns the least bare ring of more than most and at most people people, or None."""
    rings = [ring for ring in bare_rings(rule) if most < len(ring) <= people]
    return rings[0] if rings else None
