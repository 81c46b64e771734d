"""Rings without a chord, what a ring with one falls into, and the trails by which they are found."""

from swaprings.rules import prices_of, steps_of
from swaprings.tables import steps_behind

FEWEST_IN_BARE_RING = 3
LEAST_CREW = 2


def begun_at_least(steps):
    """Returns the steps of a ring, going round, begun at the least first shift."""
    start = steps.index(min(steps))
    return steps[start:] + steps[:start]


def chords(rule, ring):
    """Returns the ascending tuple of the ring's chords."""
    firsts = [i for i, _ in ring]
    seconds = [j for _, j in ring]
    used = ring + steps_behind(ring)
    return tuple([
        (i, j) for i, j in steps_of(rule) if i in firsts and j in seconds and (i, j) not in used
    ])


def is_bare(rule, ring):
    """Tells whether the ring has three or more people and no chord."""
    return len(ring) >= FEWEST_IN_BARE_RING and chords(rule, ring) == ()


def halves(rule, ring, chord):
    """Returns the two rings that do the same as the ring with this chord, one after the other."""
    t = [i for i, _ in ring].index(chord[0])
    u = [j for _, j in ring].index(chord[1])
    first = (ring[t],) + _part_of(ring, u, t)
    second = (chord,) + _part_of(ring, t + 1, u)
    return begun_at_least(first), begun_at_least(second)


def _part_of(ring, start, end):
    """Returns the ring's steps from the index start to the one ahead of the index end, going round."""
    many = len(ring)
    return tuple([ring[(start + t) % many] for t in range((end - start) % many)])


def bare_rings(rule):
    """Returns the ascending tuple of all bare rings."""
    return tuple(sorted([
        closed_by(trail, j) for trail in trails(rule, rule[0]) for j in closing_shifts(rule, trail)
    ]))


def crew(rule):
    """Returns the greatest number of people in a bare ring, 2 if there is none."""
    return max([len(ring) for ring in bare_rings(rule)], default=LEAST_CREW)


def trails(rule, most):
    """Returns the ascending tuple of all trails with at most so many first shifts."""
    found = []
    newest = [(i,) for i in range(rule[0])]
    for _ in range(most):
        found.extend(newest)
        newest = [trail + pair for trail in newest for pair in pairs_behind(rule, trail)]
    return tuple(sorted(found))


def pairs_behind(rule, trail):
    """Returns the ascending list of the pairs (j, i) with which the trail goes on."""
    allowed = prices_of(rule)
    firsts, seconds = trail[::2], trail[1::2]
    found = []
    for j in range(rule[0]):
        if j in seconds or _allowed_with(allowed, firsts, j) != [firsts[-1]]:
            continue
        for i in range(firsts[0] + 1, rule[0]):
            if i not in firsts and [l for l in seconds + (j,) if (i, l) in allowed] == [j]:
                found.append((j, i))
    return found


def closing_shifts(rule, trail):
    """Returns the ascending list of the shifts with which the trail closes to a bare ring."""
    allowed = prices_of(rule)
    firsts, seconds = trail[::2], trail[1::2]
    if len(firsts) < FEWEST_IN_BARE_RING:
        return []
    ends = [firsts[0], firsts[-1]]
    return [j for j in range(rule[0]) if j not in seconds and _allowed_with(allowed, firsts, j) == ends]


def closed_by(trail, j):
    """Returns the bare ring to which the trail closes with the shift j."""
    return tuple(zip(trail[::2], (j,) + trail[1::2]))


def _allowed_with(allowed, firsts, j):
    """Returns those of the first shifts from which a step leads to j, as they stand."""
    return [i for i in firsts if (i, j) in allowed]
