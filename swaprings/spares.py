"""Spare people, beside whom two at a time are enough."""

from swaprings.rings import bare_rings, begun_at_least
from swaprings.rules import steps_of


def is_spare(rule, ring, step):
    """Tells whether the step is spare for the bare ring."""
    x, y = step
    allowed = steps_of(rule)
    return all([(x, j) in allowed and (i, y) in allowed for i, j in ring])


def spare_way(rule, ring, step):
    """Returns the way of rings of two people by which the ring goes round beside somebody on the step."""
    x, y = step
    first, onward = ring[0]
    pairs = [(ring[0], step)]
    # From here on somebody is on (x, onward): each of the others, from the last one, takes over that shift.
    for i, j in ring[1:][::-1]:
        pairs.append(((i, j), (x, onward)))
        onward = j
    pairs.append(((first, y), (x, onward)))
    return tuple([(begun_at_least(pair), 1) for pair in pairs])


def spare_steps(rule):
    """Returns the ascending tuple of the steps that are spare for all bare rings."""
    rings = bare_rings(rule)
    return tuple([step for step in steps_of(rule) if all([is_spare(rule, ring, step) for ring in rings])])


def spares_of(rule):
    """Returns spares of the rule from which no step can be left out, None if there are none."""
    spares = [[spare for spare in steps_of(rule) if is_spare(rule, ring, spare)] for ring in bare_rings(rule)]
    if not _have_each(spares, steps_of(rule)):
        return None
    kept = steps_of(rule)
    for step in steps_of(rule):
        fewer = tuple([other for other in kept if other != step])
        if _have_each(spares, fewer):
            kept = fewer
    return kept


def _have_each(spares, steps):
    """Tells whether at least one of each of the spares is among the steps."""
    return all([any([step in steps for step in choice]) for choice in spares])
