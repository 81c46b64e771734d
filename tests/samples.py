"""Rules, values of any kind, and plain readings of the document that the tests share."""

from functools import lru_cache
from itertools import combinations, permutations, product
from random import Random

LATE = (2, ((0, 0, 0), (0, 1, 1), (1, 0, 1), (1, 1, 5)))
SIX = (3, ((0, 0, 0), (0, 1, 0), (1, 1, 0), (1, 2, 0), (2, 0, 0), (2, 2, 0)))
STEEP = (2, ((0, 0, 0), (1, 0, 0), (1, 1, 0)))
EMPTY = (3, ())
FULL = (5, tuple((i, j, 0) for i in range(5) for j in range(5)))
CLIMBING = (5, tuple((i, j, i * j) for i in range(5) for j in range(5)))
FALLING = (5, tuple((i, j, -i * j) for i in range(5) for j in range(5)))


def round_rule(shifts):
    """Each shift leads to itself and to the next one: the only rings have all shifts."""
    return (shifts, tuple(sorted((i, j % shifts, 0) for i in range(shifts) for j in (i, i + 1))))


# Its bare rings have three and four people, and the least of them all has four.
BOTH = (5, tuple((i, j, 0) for i, j in (
    (0, 0), (0, 3), (0, 4), (1, 3), (2, 2), (2, 3), (3, 0), (3, 1), (4, 1), (4, 2), (4, 4),
)))


def random_rule(random, shifts, chance=70, prices=(-2, -1, 0, 1, 2)):
    return (shifts, tuple(
        (i, j, random.choice(prices))
        for i in range(shifts) for j in range(shifts) if random.randrange(100) < chance
    ))


def random_rules(seed, many, sizes):
    random = Random(seed)
    return [
        random_rule(random, random.choice(sizes), random.choice((30, 50, 70, 90, 100)),
                    random.choice(((0,), (0, 1), (-2, -1, 0, 1, 2), (-99, 99))))
        for _ in range(many)
    ]


def all_unpriced(shifts):
    pairs = list(product(range(shifts), repeat=2))
    for chosen in product((False, True), repeat=len(pairs)):
        yield (shifts, tuple((i, j, 0) for (i, j), held in zip(pairs, chosen) if held))


def nested(value, depth, wrap):
    for _ in range(depth):
        value = wrap(value)
    return value


def odd_values():
    """New values of every kind that any value may have, to the depth and size that it may have."""
    return [
        None, True, False, 0, 1, 2, -1, 10 ** 79, -(10 ** 79), "", "shifts", "01", (), (0,), (0, 0), (0, 1),
        (None, None), ((), ()), ([], []), ([0, 1], [0, 1]), ((0, 1), [0, 1]), ("01", "01"), ({}, {}),
        [], [0, 1], [(0, 1), (0, 1)], [2, ()], {}, {0: 1}, {"part": [1, {"deep": (2,)}]},
        ((0, 0, 0),), ((0, 0), (1, 1)), [(0, 0), (1, 1)], ([0, 0], [1, 1]), ((True, False), (False, True)),
        ((0, 0), None), (((0, 0), (1, 1)), 1), ((0, "1"), (1, "0")), ((0, None), (1, 1)), (({}, []), ([], {})),
        nested(0, 40, lambda value: (value,)), nested([], 40, lambda value: [value]),
        nested(1, 40, lambda value: {"in": value}), nested((0, 0), 38, lambda value: (value, 0)),
        tuple(range(200_000)), ((0, 0),) * 60_000, [0] * 199_000, ("0" * 1_000, {"a": [None] * 1_000}),
    ]


def prices_by_pair(rule):
    return {(i, j): price for i, j, price in rule[1]}


@lru_cache(maxsize=None)
def rings_by_words(rule):
    """All rings of the rule, read word by word from the document."""
    allowed, shifts, found = prices_by_pair(rule), range(rule[0]), []
    for many in range(2, rule[0] + 1):
        for firsts in permutations(shifts, many):
            for seconds in permutations(shifts, many):
                ring = tuple(zip(firsts, seconds))
                behind = [(firsts[t], seconds[(t + 1) % many]) for t in range(many)]
                if firsts[0] == min(firsts) and all(step in allowed for step in [*ring, *behind]):
                    found.append(ring)
    return tuple(found)


def steps_behind_by_words(ring):
    """The steps on which the people of the ring are behind a turn."""
    return [(ring[t][0], ring[(t + 1) % len(ring)][1]) for t in range(len(ring))]


def chords_by_words(rule, ring):
    allowed, behind = prices_by_pair(rule), steps_behind_by_words(ring)
    return [
        (i, j) for i in range(rule[0]) for j in range(rule[0])
        if i in [first for first, _ in ring] and j in [second for _, second in ring]
        and (i, j) in allowed and (i, j) not in ring and (i, j) not in behind
    ]


@lru_cache(maxsize=None)
def bare_rings_by_words(rule):
    """All bare rings, ascending."""
    return tuple(sorted(ring for ring in rings_by_words(rule) if len(ring) > 2 and not chords_by_words(rule, ring)))


def turned_by_words(table, ring, times):
    """The table behind the turn, None if it cannot be done."""
    if any(table[i][j] < times for i, j in ring):
        return None
    rows = [list(row) for row in table]
    for i, j in ring:
        rows[i][j] -= times
    for i, j in steps_behind_by_words(ring):
        rows[i][j] += times
    return tuple(map(tuple, rows))


def reached_by_words(rule, table, most):
    """All tables to which turns of rings of at most so many people lead, of any ring and any times."""
    rings = [ring for ring in rings_by_words(rule) if len(ring) <= most]
    found, waiting = {table}, [table]
    while waiting:
        current = waiting.pop()
        for ring in rings:
            for times in range(1, min(current[i][j] for i, j in ring) + 1):
                after = turned_by_words(current, ring, times)
                if after not in found:
                    found.add(after)
                    waiting.append(after)
    return found


def fours(rule, steps, step):
    """All fours against the step among the steps, read word by word from the document."""
    prices, (i, j) = prices_by_pair(rule), step
    return [
        (k, l) for k, l in product(range(rule[0]), repeat=2)
        if k != i and l != j and (i, l) in steps and (k, j) in steps
        and ((k, l) not in prices or prices[i, j] + prices[k, l] > prices[i, l] + prices[k, j])
    ]


def is_order_by_words(rule, steps):
    return all(not fours(rule, steps[t:], step) for t, step in enumerate(steps))


def are_good_by_words(rule, line, other):
    allowed, shifts = prices_by_pair(rule), range(rule[0])
    return all(
        (k, l) in allowed
        for i, k in product(shifts, repeat=2) if line.index(i) < line.index(k)
        for j, l in product(shifts, repeat=2) if other.index(j) < other.index(l)
        if (i, j) in allowed and (i, l) in allowed and (k, j) in allowed
    )


def pairs_of_lines(shifts):
    lines = list(permutations(range(shifts)))
    return list(product(lines, repeat=2))


def tables_of_people(rule, people):
    """All tables of the rule with so many people."""
    pairs = sorted(prices_by_pair(rule))

    def spread(left, many):
        if many == 0:
            return [()] if left == 0 else []
        return [(first,) + rest for first in range(left + 1) for rest in spread(left - first, many - 1)]

    found = []
    for counts in spread(people, len(pairs)):
        on = dict(zip(pairs, counts))
        found.append(tuple(tuple(on.get((i, j), 0) for j in range(rule[0])) for i in range(rule[0])))
    return found


def tables_with(rule, sums):
    """All tables of the rule with these sums."""
    allowed, shifts = prices_by_pair(rule), rule[0]

    def rows_of(many, columns, i, j=0):
        if j == shifts:
            return [()] if many == 0 else []
        most = min(many, columns[j]) if (i, j) in allowed else 0
        return [(on,) + row for on in range(most + 1) for row in rows_of(many - on, columns, i, j + 1)]

    def tables_of(i, columns):
        if i == shifts:
            return [()] if not any(columns) else []
        return [
            (row,) + table for row in rows_of(sums[0][i], columns, i)
            for table in tables_of(i + 1, [many - on for many, on in zip(columns, row)])
        ]

    return tables_of(0, list(sums[1]))


def random_table(random, rule, people):
    """A table with at most so many people, who are spread unevenly over its steps."""
    rows = [[0] * rule[0] for _ in range(rule[0])]
    left = people
    for i, j, _ in random.sample(rule[1], len(rule[1])):
        rows[i][j] = random.choice((0, 0, 1, random.randrange(left + 1), left // 2))
        rows[i][j] = min(rows[i][j], left)
        left -= rows[i][j]
    return tuple(map(tuple, rows))


def random_order(random, rule):
    """Any order of a rule that has one."""
    left, order = sorted(prices_by_pair(rule)), []
    while left:
        order.append(random.choice([step for step in left if not fours(rule, left, step)]))
        left.remove(order[-1])
    return tuple(order)


def random_counts(random, shifts, people):
    cuts = sorted(random.randrange(people + 1) for _ in range(shifts - 1))
    return tuple(high - low for low, high in zip([0] + cuts, cuts + [people]))


def random_sums(random, rule, people):
    """Sums of so many people, whether there is a table with them or not."""
    return random_counts(random, rule[0], people), random_counts(random, rule[0], people)


def sums_of_rows(table):
    return tuple(map(sum, table)), tuple(map(sum, zip(*table)))


def drawn_sums(random, rule, people):
    """Sums of at most so many people, half of them those of a table."""
    if random.randrange(2):
        return sums_of_rows(random_table(random, rule, people))
    return random_sums(random, rule, people)


def all_sets_of(shifts):
    return [chosen for many in range(shifts + 1) for chosen in combinations(range(shifts), many)]


def next_shifts_by_words(rule, shifts):
    return tuple(j for j in range(rule[0]) if any((i, j) in prices_by_pair(rule) for i in shifts))


def barriers_by_words(rule, sums):
    """All barriers for the sums."""
    return [
        chosen for chosen in all_sets_of(rule[0])
        if sum(sums[0][i] for i in chosen) > sum(sums[1][j] for j in next_shifts_by_words(rule, chosen))
    ]


def filled_by_words(rule, steps, sums):
    """The cost of the filled table, None if people are left over."""
    rows, columns = list(sums[0]), list(sums[1])
    prices, price = prices_by_pair(rule), 0
    for i, j in steps:
        many = min(rows[i], columns[j])
        rows[i], columns[j], price = rows[i] - many, columns[j] - many, price + many * prices[i, j]
    return None if any(rows) else price


def random_plan(random, shifts, people, days=None, closed=None, chance=70):
    """A plan with a roster or without one, endless or not."""
    days = random.randrange(1, 8) if days is None else days
    closed = days == 1 or random.random() < 0.5 if closed is None else closed
    rules = tuple(random_rule(random, shifts, chance) for _ in range(days if closed else days - 1))
    if closed or not 0 < people < 50 or random.randrange(3) == 0:
        return tuple(random_counts(random, shifts, people) for _ in range(days)), rules
    rows = [[random.randrange(shifts)] for _ in range(people)]
    for rule in rules:
        for row in rows:
            row.append(random.choice([j for i, j, _ in rule[1] if i == row[-1]] or [random.randrange(shifts)]))
    return needs_of(shifts, rows), rules


def sums_of_plan(plan, t):
    """The sums of rule t."""
    needs = plan[0]
    return needs[t], needs[0] if t == len(needs) - 1 else needs[t + 1]


def others_of_plan(plan, row, t):
    """The sums of rule t for the others than somebody with this row."""
    rows, columns = map(list, sums_of_plan(plan, t))
    if t < len(plan[0]) - 1:
        rows[row[t]] -= 1
        columns[row[t + 1]] -= 1
    return tuple(rows), tuple(columns)


def needs_of(shifts, rows):
    return tuple(tuple(day.count(shift) for shift in range(shifts)) for day in zip(*rows))


def following_steps(rota, r):
    """The steps of row r, the last one to the row that follows."""
    rows, follow = rota
    return list(zip(rows[r], rows[r][1:] + rows[follow[r]][:1]))


def random_rota(random, shifts, days, many, spread=None, extra=20):
    """An endless plan and a rota of it: the steps that its rows take are allowed, and some others."""
    few = random.choice((1, 1, 1, 2, shifts))
    kinds = [[random.randrange(shifts)] * days for _ in range(spread or many)]
    kinds = [tuple(random.choice((shift, random.randrange(0, shifts, few))) for shift in kind) for kind in kinds]
    rows = tuple(random.choice(kinds) for _ in range(many))
    follow, moved = list(range(many)), sorted(random.sample(range(many), random.choice((0, many // 3, many))))
    for r, other in zip(moved, random.sample(moved, len(moved))):
        follow[r] = other
    rota = rows, tuple(follow)
    used = [following_steps(rota, r) for r in range(many)]
    rules = tuple(
        (shifts, tuple(
            (i, j, random.randrange(-99, 100)) for i, j in product(range(shifts), repeat=2)
            if (i, j) in [steps[t] for steps in used] or random.randrange(100) < extra
        )) for t in range(days)
    )
    return (needs_of(shifts, rows), rules), rota


def tables_by_words(plan, rota):
    used = [following_steps(rota, r) for r in range(len(rota[0]))]
    shifts = range(plan[1][0][0])
    return tuple(
        tuple(tuple([steps[t] for steps in used].count((i, j)) for j in shifts) for i in shifts)
        for t in range(len(plan[1]))
    )


def rounds_by_words(rota):
    """The rounds of the rota, each a set of indices of rows."""
    found = []
    for r in range(len(rota[0])):
        gone, at = {r}, rota[1][r]
        while at != r:
            gone.add(at)
            at = rota[1][at]
        if gone not in found:
            found.append(gone)
    return found


def pieces_by_words(plan, rota):
    """The pieces, by joining places until nothing is joined any more."""
    days = len(plan[0])
    found = [{(t, i)} for t in range(days) for i, many in enumerate(plan[0][t]) if many]
    for r in range(len(rota[0])):
        for t, (i, j) in enumerate(following_steps(rota, r)):
            ends = {(t, i), ((t + 1) % days, j)}
            found = [piece for piece in found if not piece & ends] + [set().union(*[p for p in found if p & ends])]
    return tuple(sorted(tuple(sorted(piece)) for piece in found))


def handed_round(rows, day, people):
    """The rows behind the deed, by words."""
    after = list(rows)
    for at, person in enumerate(people):
        after[person] = rows[person][:day + 1] + rows[people[(at + 1) % len(people)]][day + 1:]
    return tuple(after)


def can_be_handed_round(rules, rows, day, people):
    after = handed_round(rows, day, people)
    return all((after[person][day], after[person][day + 1]) in prices_by_pair(rules[day]) for person in people)


def random_people(random, shifts, days, many, chance=60, priced=True, together=None):
    """The rules and the rows of a roster of people, made so that all the rows' steps are allowed."""
    rows = tuple(tuple(random.randrange(shifts) for _ in range(days + 1)) for _ in range(many))
    rules = tuple(
        (shifts, tuple(
            (i, j, random.randrange(-9, 10) if priced else 0) for i, j in product(range(shifts), repeat=2)
            if (i, j) in [(row[t], row[t + 1]) for row in rows] or random.randrange(100) < chance
        )) for t in range(days)
    )
    return rules, rows


def rosters_reached(rules, rows, taking, most, limit=100_000):
    """All rows to which deeds of at most so many of those who take part lead."""
    found, waiting = {rows}, [rows]
    while waiting:
        current = waiting.pop()
        for many in range(2, min(most, len(taking)) + 1):
            for people in permutations(taking, many):
                if people[0] != min(people):
                    continue
                for day in range(len(rules)):
                    if can_be_handed_round(rules, current, day, people):
                        after = handed_round(current, day, people)
                        if after not in found:
                            found.add(after)
                            waiting.append(after)
                            assert len(found) < limit
    return found


def crew_by_words(rule):
    return max([len(ring) for ring in bare_rings_by_words(rule)], default=2)


def has_order_by_words(rule):
    left = sorted(prices_by_pair(rule))
    while left:
        free = [step for step in left if not fours(rule, left, step)]
        if not free:
            return False
        left.remove(free[0])
    return True
