"""Claims of each kind, true ones and false ones, with what is due to them by plain readings of the document."""

from itertools import combinations, product

from tests.samples import (
    BOTH, EMPTY, FULL, LATE, SIX, bare_rings_by_words, barriers_by_words, drawn_sums, has_order_by_words,
    others_of_plan, pieces_by_words, prices_by_pair, random_people, random_plan, random_rota, random_rule, random_table,
    reached_by_words, rosters_reached, round_rule, sums_of_plan, sums_of_rows,
    tables_with,
)

KINDS = ("order", "crew", "joined", "way", "table", "price", "most", "least", "mend", "plan", "row", "rounds", "have")
MOST = 10 ** 30


def any_rule(random, sizes=(2, 3, 4, 5)):
    if random.randrange(6) == 0:
        return random.choice([LATE, SIX, EMPTY, FULL, round_rule(4), round_rule(5)])
    prices = random.choice([(0,), (0, 1), (-2, -1, 0, 1, 2)])
    return random_rule(random, random.choice(sizes), random.choice((30, 50, 70, 90)), prices)


def price_by_words(rule, table):
    prices = prices_by_pair(rule)
    return sum(table[i][j] * prices[i, j] for i, j in prices)


def order_claim(random):
    rule = any_rule(random)
    return ("order", rule), has_order_by_words(rule)


def crew_claim(random):
    rule = any_rule(random)
    crew = max([len(ring) for ring in bare_rings_by_words(rule)], default=2)
    many = random.choice((2, 3, 4, 5, crew, crew))
    return ("crew", rule, many), many == crew


def joined_claim(random):
    rule = random.choice([SIX, BOTH, round_rule(4), round_rule(5), any_rule(random), any_rule(random)])
    people, most = random.choice((0, 1, 2, 3, 4, 5, MOST)), random.randrange(2, 6)
    truth = not any(most < len(ring) <= people for ring in bare_rings_by_words(rule))
    return ("joined", rule, people, most), truth


def way_claim(random):
    rule = random.choice([SIX, round_rule(3), round_rule(4), any_rule(random, (2, 3, 4)), any_rule(random, (3,))])
    table, most = random_table(random, rule, random.randrange(1, 6)), random.randrange(2, 6)
    if random.randrange(2):
        rule = random.choice([SIX, BOTH, round_rule(4), round_rule(5)])
        rows = [[0] * rule[0] for _ in range(rule[0])]
        for i, j in random.choice(bare_rings_by_words(rule)) + (random.choice(rule[1])[:2],):
            rows[i][j] += 1
        table = tuple(map(tuple, rows))
    others = tables_with(rule, sums_of_rows(table))
    other = random.choice(others)
    return ("way", rule, table, other, most), other in reached_by_words(rule, table, most)


def table_claim(random):
    rule = any_rule(random)
    sums = drawn_sums(random, rule, random.choice((0, 1, 3, 5, MOST)))
    return ("table", rule, sums), not barriers_by_words(rule, sums)


def price_claim(random):
    rule = any_rule(random, (2, 3, 4))
    sums = drawn_sums(random, rule, random.choice((0, 1, 3, 4)))
    least = min([price_by_words(rule, table) for table in tables_with(rule, sums)], default=None)
    price = random.choice((least, least, None, 0, (least or 0) + 1, (least or 0) - 1, 10 ** 33, -10 ** 33))
    return ("price", rule, sums, price), price == least


def limit_claim(random, kind):
    rule = any_rule(random, (2, 3, 4))
    while not rule[1]:
        rule = any_rule(random, (2, 3, 4))
    sums, step = drawn_sums(random, rule, random.choice((0, 1, 3, 4))), random.choice(rule[1])[:2]
    counts = [table[step[0]][step[1]] for table in tables_with(rule, sums)]
    right = (max if kind == "most" else min)(counts, default=None)
    many = random.choice((right, right, None, 0, 1, (right or 0) + 1, MOST))
    return (kind, rule, sums, step, many), many == right


def least_cost(rule, options):
    """The least cost of a choice with which the rule has an order, by all choices."""
    costs = []
    for chosen in product((False, True), repeat=len(options)):
        taken = [option for option, is_taken in zip(options, chosen) if is_taken]
        if any(one[:2] == other[:2] for one, other in combinations(taken, 2)):
            continue
        prices = prices_by_pair(rule)
        for i, j, price, _ in taken:
            prices[i, j] = price
        changed = rule[0], tuple((i, j, prices[i, j]) for i, j in sorted(prices) if prices[i, j] is not None)
        if has_order_by_words(changed):
            costs.append(sum(option[3] for option in taken))
    return min(costs, default=None)


def mend_claim(random):
    rule = random.choice([SIX, round_rule(4), any_rule(random, (3, 4)), any_rule(random, (3,))])
    options = tuple(
        (random.randrange(rule[0]), random.randrange(rule[0]), random.choice((None, 0, 1, -5, 99)),
         random.choice((0, 1, 2, 3, 99))) for _ in range(random.randrange(1, 5))
    )
    least = least_cost(rule, options)
    cost = random.choice((least, least, None, 0, 1, 3, 594, (least or 0) + 1))
    return ("mend", rule, options, cost), cost == least


def plan_claim(random):
    plan = random_plan(random, random.choice((2, 3, 4)), random.choice((1, 3, 5, MOST)))
    truth = not any(barriers_by_words(rule, sums_of_plan(plan, t)) for t, rule in enumerate(plan[1]))
    return ("plan", plan), truth


def row_claim(random):
    plan = random_plan(random, random.choice((2, 3)), random.choice((1, 3, 5, MOST)), random.randrange(1, 4), chance=85)
    row = tuple(random.randrange(plan[1][0][0]) for _ in plan[0])
    truth = all((row[t], row[t + 1]) in prices_by_pair(plan[1][t]) for t in range(len(row) - 1))
    truth = truth and all(plan[0][t][shift] for t, shift in enumerate(row))
    truth = truth and not any(barriers_by_words(rule, others_of_plan(plan, row, t)) for t, rule in enumerate(plan[1]))
    return ("row", plan, row), truth


def rounds_claim(random):
    plan, rota = random_rota(random, random.choice((2, 3, 4)), random.randrange(1, 5), random.choice((1, 2, 4, 8, 40)))
    right = len(pieces_by_words(plan, rota))
    many = random.choice((right, right, 1, 2, 40, right + 1))
    return ("rounds", plan, rota, many), many == right


def have_claim(random):
    shifts, days, many = random.choice([(2, 2, 4), (3, 2, 4), (3, 3, 3), (4, 1, 5), (5, 1, 5), (4, 2, 4)])
    rules, rows = random_people(random, shifts, days, many, random.choice((0, 10, 30)))
    absent = tuple(sorted(random.sample(range(many), random.choice((0, 0, 1, 2)))))
    taking = [person for person in range(many) if person not in absent]
    person, day, shift = random.choice(taking), random.randrange(days + 1), random.randrange(shifts)
    truth = any(told[person][day] == shift for told in rosters_reached(rules, rows, taking, many))
    return ("have", rules, rows, absent, person, day, shift), truth


MAKERS = {
    "order": order_claim, "crew": crew_claim, "joined": joined_claim, "way": way_claim, "table": table_claim,
    "price": price_claim, "most": lambda random: limit_claim(random, "most"),
    "least": lambda random: limit_claim(random, "least"), "mend": mend_claim, "plan": plan_claim, "row": row_claim,
    "rounds": rounds_claim, "have": have_claim,
}
