"""Rules, values of any kind, and plain readings of the document that the tests share."""

from itertools import permutations, product
from random import Random

LATE = (2, ((0, 0, 0), (0, 1, 1), (1, 0, 1), (1, 1, 5)))
SIX = (3, ((0, 0, 0), (0, 1, 0), (1, 1, 0), (1, 2, 0), (2, 0, 0), (2, 2, 0)))
STEEP = (2, ((0, 0, 0), (1, 0, 0), (1, 1, 0)))
EMPTY = (3, ())
FULL = (5, tuple((i, j, 0) for i in range(5) for j in range(5)))


def random_rule(random, shifts, chance=70, prices=(-2, -1, 0, 1, 2)):
    return (shifts, tuple(
        (i, j, random.choice(prices))
        for i in range(shifts) for j in range(shifts) if random.randrange(100) < chance
    ))


def random_rules(seed, many, sizes):
    random = Random(seed)
    return [
        random_rule(random, random.choice(sizes), random.choice((30, 50, 70, 90, 100)),
                    random.choice(((0,), (0, 1), (-2, -1, 0, 1, 2), (-99, 99))))
        for _ in range(many)
    ]


def all_unpriced(shifts):
    pairs = list(product(range(shifts), repeat=2))
    for chosen in product((False, True), repeat=len(pairs)):
        yield (shifts, tuple((i, j, 0) for (i, j), held in zip(pairs, chosen) if held))


def nested(value, depth, wrap):
    for _ in range(depth):
        value = wrap(value)
    return value


def odd_values():
    """New values of every kind that any value may have, to the depth and size that it may have."""
    return [
        None, True, False, 0, 1, 2, -1, 10 ** 79, -(10 ** 79), "", "shifts", "01", (), (0,), (0, 0), (0, 1),
        (None, None), ((), ()), ([], []), ([0, 1], [0, 1]), ((0, 1), [0, 1]), ("01", "01"), ({}, {}),
        [], [0, 1], [(0, 1), (0, 1)], [2, ()], {}, {0: 1}, {"part": [1, {"deep": (2,)}]},
        ((0, 0, 0),), ((0, 0), (1, 1)), [(0, 0), (1, 1)], ([0, 0], [1, 1]), ((True, False), (False, True)),
        ((0, 0), None), (((0, 0), (1, 1)), 1), ((0, "1"), (1, "0")), ((0, None), (1, 1)), (({}, []), ([], {})),
        nested(0, 40, lambda value: (value,)), nested([], 40, lambda value: [value]),
        nested(1, 40, lambda value: {"in": value}), nested((0, 0), 38, lambda value: (value, 0)),
        tuple(range(200_000)), ((0, 0),) * 60_000, [0] * 199_000, ("0" * 1_000, {"a": [None] * 1_000}),
    ]


def prices_by_pair(rule):
    return {(i, j): price for i, j, price in rule[1]}


def fours(rule, steps, step):
    """All fours against the step among the steps, read word by word from the document."""
    prices, (i, j) = prices_by_pair(rule), step
    return [
        (k, l) for k, l in product(range(rule[0]), repeat=2)
        if k != i and l != j and (i, l) in steps and (k, j) in steps
        and ((k, l) not in prices or prices[i, j] + prices[k, l] > prices[i, l] + prices[k, j])
    ]


def is_order_by_words(rule, steps):
    return all(not fours(rule, steps[t:], step) for t, step in enumerate(steps))


def are_good_by_words(rule, line, other):
    allowed, shifts = prices_by_pair(rule), range(rule[0])
    return all(
        (k, l) in allowed
        for i, k in product(shifts, repeat=2) if line.index(i) < line.index(k)
        for j, l in product(shifts, repeat=2) if other.index(j) < other.index(l)
        if (i, j) in allowed and (i, l) in allowed and (k, j) in allowed
    )


def pairs_of_lines(shifts):
    lines = list(permutations(range(shifts)))
    return list(product(lines, repeat=2))


def tables_of_people(rule, people):
    """All tables of the rule with so many people."""
    pairs = sorted(prices_by_pair(rule))

    def spread(left, many):
        if many == 0:
            return [()] if left == 0 else []
        return [(first,) + rest for first in range(left + 1) for rest in spread(left - first, many - 1)]

    found = []
    for counts in spread(people, len(pairs)):
        on = dict(zip(pairs, counts))
        found.append(tuple(tuple(on.get((i, j), 0) for j in range(rule[0])) for i in range(rule[0])))
    return found


def filled_by_words(rule, steps, sums):
    """The cost of the filled table, None if people are left over."""
    rows, columns = list(sums[0]), list(sums[1])
    prices, price = prices_by_pair(rule), 0
    for i, j in steps:
        many = min(rows[i], columns[j])
        rows[i], columns[j], price = rows[i] - many, columns[j] - many, price + many * prices[i, j]
    return None if any(rows) else price
