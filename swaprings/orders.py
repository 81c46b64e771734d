"""Orders by which filling is always best, the stuck sets that bar them, and good lines."""

from swaprings.rules import prices_of, steps_of
from swaprings.values import is_pair_of_shifts, is_tuple_of, is_whole


def four_against(rule, steps, step):
    """Returns the least four against the step among the steps, or None."""
    return _least_four(prices_of(rule), steps, step)


def _least_four(prices, steps, step):
    i, j = step
    firsts = [first for first, second in steps if second == j and first != i]
    seconds = [second for first, second in steps if first == i and second != j]
    fours = [(k, l) for k in firsts for l in seconds if _is_dearer(prices, step, (k, l))]
    return min(fours, default=None)


def _is_dearer(prices, step, other):
    """Tells whether the other pair is barred, or both cost more than with changed places."""
    if other not in prices:
        return True
    (i, j), (k, l) = step, other
    return prices[step] + prices[other] > prices[(i, l)] + prices[(k, j)]


def may_go_first(rule, steps):
    """Returns the ascending tuple of the steps that may go first among the steps."""
    prices = prices_of(rule)
    return tuple([step for step in sorted(steps) if _least_four(prices, steps, step) is None])


def least_order(rule):
    """Returns the order that takes the least step that may go first each time, or None."""
    taken, left = _taken_and_left(rule)
    return None if left else taken


def stuck_steps(rule):
    """Returns the greatest stuck set, ascending, () if there is none."""
    _, left = _taken_and_left(rule)
    return left


def _taken_and_left(rule):
    """Takes the least step that may go first, again and again, until there is none."""
    prices = prices_of(rule)
    taken = []
    left = steps_of(rule)
    step = _least_that_may_go(prices, left)
    while step is not None:
        taken.append(step)
        left = tuple([other for other in left if other != step])
        step = _least_that_may_go(prices, left)
    return tuple(taken), left


def _least_that_may_go(prices, steps):
    """Returns the first of the ascending steps that may go first among them, or None."""
    for step in steps:
        if _least_four(prices, steps, step) is None:
            return step
    return None


def is_order(rule, value):
    """Tells whether the value is an order of the rule."""
    return has_each_step(rule, value) and first_with_four(rule, value) is None


def has_each_step(rule, value):
    """Tells whether the value is a tuple of all steps of the rule, each once."""
    if not is_tuple_of(value, len(rule[1])):
        return False
    if not all([is_pair_of_shifts(step, rule[0]) for step in value]):
        return False
    return tuple(sorted(value)) == steps_of(rule)


def first_with_four(rule, steps):
    """Returns the index of the first step with a four against it among those from there on, or None."""
    prices = prices_of(rule)
    for t, step in enumerate(steps):
        if _least_four(prices, steps[t:], step) is not None:
            return t
    return None


def is_four(rule, steps, step, other):
    """Tells whether the other pair is a four against the step among the steps."""
    (i, j), (k, l) = step, other
    if k == i or l == j or (i, l) not in steps or (k, j) not in steps:
        return False
    return _is_dearer(prices_of(rule), step, other)


def good_lines(rule):
    """Returns a pair of good lines, or None."""
    # A first line tells of every two shifts which must stand ahead in the second one, if any must:
    # so only first lines need to be tried.
    gaps = _gaps(rule)
    shifts = tuple(range(rule[0]))
    for line in _lines(shifts):
        other = _line_beside(line, gaps)
        if other is not None:
            return line, other
    return None


def are_good_lines(rule, value):
    """Tells whether the value is a pair of lines that are good for the rule."""
    if not is_tuple_of(value, 2):
        return False
    line, other = value
    if not _is_line(line, rule[0]) or not _is_line(other, rule[0]):
        return False
    return not any([other.index(j) < other.index(l) for l, j in _needed_ahead(line, _gaps(rule))])


def _gaps(rule):
    """Returns all (i, j, k, l) with (k, l) barred, but (i, j), (i, l) and (k, j) allowed."""
    steps = steps_of(rule)
    return [
        (i, j, k, l)
        for i, j in steps
        for first, l in steps if first == i
        for k, second in steps if second == j and (k, l) not in steps
    ]


def _needed_ahead(line, gaps):
    """Returns all (l, j) such that beside the first line l must stand ahead of j in the second one."""
    places = {shift: place for place, shift in enumerate(line)}
    return {(l, j): True for i, j, k, l in gaps if places[i] < places[k]}


def _line_beside(line, gaps):
    """Returns the least second line that is good beside the first one, or None."""
    ahead = _needed_ahead(line, gaps)
    found = []
    left = sorted(line)
    while left:
        free = [j for j in left if not any([(l, j) in ahead for l in left])]
        if not free:
            return None
        found.append(free[0])
        left = [j for j in left if j != free[0]]
    return tuple(found)


def _lines(shifts):
    """Returns the ascending list of all tuples of all these shifts."""
    if not shifts:
        return [()]
    found = []
    for first in shifts:
        others = tuple([shift for shift in shifts if shift != first])
        found.extend([(first,) + line for line in _lines(others)])
    return found


def _is_line(value, shifts):
    if not is_tuple_of(value, shifts):
        return False
    if not all([is_whole(shift, 0, shifts - 1) for shift in value]):
        return False
    return len(set(value)) == shifts
