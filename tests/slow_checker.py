"""Point 20 read word by word: all faults of a certificate in their order, of which the first one counts."""

from itertools import combinations, product

from tests.samples import (
    bare_rings_by_words, barriers_by_words, fours, handed_round, next_shifts_by_words, others_of_plan, prices_by_pair,
    rings_by_words, rounds_by_words, sums_of_plan, sums_of_rows, tables_by_words, turned_by_words,
)

MOST = 10 ** 30


def whole(value, least, most):
    return type(value) is int and least <= value <= most


def many_of(value, test, least=0, most=10 ** 9):
    return type(value) is tuple and least <= len(value) <= most and all(test(part) for part in value)


def ascending(values, key=lambda value: value):
    return all(key(one) < key(other) for one, other in zip(values, values[1:]))


class Shapes:
    """What a part of a paper may be, for rules of so many shifts."""

    def __init__(self, shifts):
        self.shifts = shifts

    def shift(self, value):
        return whole(value, 0, self.shifts - 1)

    def pair(self, value):
        return many_of(value, self.shift, 2, 2)

    def count(self, value):
        return whole(value, 0, MOST)

    def order(self, value, rule):
        return many_of(value, self.pair) and sorted(value) == sorted(prices_by_pair(rule))

    def stuck(self, value):
        return many_of(value, lambda row: many_of(row, self.shift, 4, 4) and row[0] != row[2] and row[1] != row[3], 1) \
            and ascending(value, lambda row: row[:2])

    def ring(self, value):
        return many_of(value, self.pair, 1)

    def turn(self, value):
        return type(value) is tuple and len(value) == 2 and self.ring(value[0]) and whole(value[1], 1, MOST)

    def trails(self, value):
        return many_of(value, lambda trail: many_of(trail, self.shift, 1), 0, 300) and ascending(value)

    def table(self, value):
        return many_of(value, lambda row: many_of(row, self.count, self.shifts, self.shifts), self.shifts, self.shifts)

    def potentials(self, value):
        def numbers(row):
            return many_of(row, lambda number: whole(number, -10 ** 6, 10 ** 6), self.shifts, self.shifts)
        return many_of(value, numbers, 2, 2)

    def chosen(self, value):
        return many_of(value, self.shift) and ascending(value)


def tuple_of(value, many):
    return type(value) is tuple and len(value) == many


def has_shape(verdict, claim, paper):
    kind, shown = claim[0], verdict == "shown"
    rule = claim[1] if kind not in ("plan", "row", "rounds", "have") else None
    if kind == "have":
        rule = claim[1][0]
    elif rule is None:
        rule = claim[1][1][0]
    told = Shapes(rule[0])
    pair = paper if tuple_of(paper, 2) else (None, None)
    if kind == "order":
        return told.order(paper, rule) if shown else told.stuck(paper)
    if kind == "crew":
        if shown:
            rings = 1 if claim[2] > 2 else 0
            return many_of(pair[0], told.ring, rings, rings) and told.trails(pair[1])
        return pair[0] == "more" and told.ring(pair[1]) or pair[0] == "fewer" and claim[2] > 2 and told.trails(pair[1])
    if kind == "joined":
        return told.trails(paper) if shown else told.ring(paper)
    if kind == "way":
        if shown:
            return many_of(paper, told.turn, 0, 500)
        return many_of(paper, told.table, 1, 1000) and ascending(paper) and all(
            sums_of_rows(table) == sums_of_rows(claim[2]) and all(
                not many or (i, j) in prices_by_pair(rule) for i, row in enumerate(table) for j, many in enumerate(row)
            ) for table in paper
        )
    if kind == "table":
        return told.table(paper) if shown else told.chosen(paper)
    if kind in ("price", "most", "least"):
        return number_shape(told, claim, shown, paper, pair)
    if kind == "mend":
        return mend_shape(told, claim, shown, paper, pair)
    if kind == "have":
        return have_shape(told, claim, shown, paper, pair)
    return days_shape(told, claim, shown, paper, pair)


def number_shape(told, claim, shown, paper, pair):
    kind, number = claim[0], claim[-1]

    def bound(value):
        if kind == "price":
            return told.potentials(value)
        return told.chosen(value) and (claim[3][0] in value) == (kind == "least")

    if shown and number is None:
        return told.chosen(paper)
    if shown:
        right = pair[1] == () if kind == "least" and number == 0 else bound(pair[1])
        return tuple_of(paper, 2) and told.table(pair[0]) and right
    if pair[0] == "table":
        return told.table(pair[1])
    if number is None:
        return False
    return pair[0] == "none" and told.chosen(pair[1]) or pair[0] == "bound" and bound(pair[1])


def changed_rule(rule, options, choice):
    prices = prices_by_pair(rule)
    for index in choice:
        prices[options[index][:2]] = options[index][2]
    return rule[0], tuple((i, j, prices[i, j]) for i, j in sorted(prices) if prices[i, j] is not None)


def mend_shape(told, claim, shown, paper, pair):
    _, rule, options, number = claim

    def choice_and_order(choice, order):
        if not many_of(choice, lambda index: whole(index, 0, len(options) - 1)) or not ascending(choice):
            return False
        if any(options[one][:2] == options[other][:2] for one, other in combinations(choice, 2)):
            return False
        return told.order(order, changed_rule(rule, options, choice))

    if shown and number is None:
        return many_of(paper, told.stuck)
    if shown:
        return tuple_of(paper, 3) and choice_and_order(*paper[:2]) and many_of(paper[2], told.stuck)
    if tuple_of(paper, 3) and paper[0] == "less":
        return choice_and_order(*paper[1:])
    return pair[0] == "more" and number is not None and many_of(pair[1], told.stuck)


def days_shape(told, claim, shown, paper, pair):
    kind, plan = claim[:2]
    days, rules = len(plan[0]), len(plan[1])
    if kind in ("plan", "row") and shown:
        return many_of(paper, told.table, rules, rules)
    if kind == "plan":
        return whole(pair[0], 0, rules - 1) and told.chosen(pair[1])
    if kind == "row":
        if tuple_of(paper, 3):
            return paper[0] == "barrier" and whole(paper[1], 0, rules - 1) and told.chosen(paper[2])
        return pair[0] == "step" and whole(pair[1], 0, days - 2) or pair[0] == "short" and whole(pair[1], 0, days - 1)
    rows = len(claim[2][0])

    def change(value):
        return tuple_of(value, 3) and whole(value[0], 0, days - 1) and all(whole(r, 0, rows - 1) for r in value[1:])

    def piece(value):
        return many_of(value, lambda place: told_pair(told, place, days), 1) and ascending(value)

    if shown:
        return many_of(pair[0], change, 0, 100) and many_of(pair[1], piece)
    return pair[0] == "fewer" and many_of(pair[1], change, 0, 100) or pair[0] == "more" and many_of(pair[1], piece)


def told_pair(told, place, days):
    return tuple_of(place, 2) and whole(place[0], 0, days - 1) and told.shift(place[1])


def have_shape(told, claim, shown, paper, pair):
    _, rules, rows, _, _, day, _ = claim

    def deed(value):
        return tuple_of(value, 2) and whole(value[0], 0, len(rules) - 1) \
            and many_of(value[1], lambda person: whole(person, 0, len(rows) - 1), 2) \
            and len(set(value[1])) == len(value[1])

    def block(value):
        return tuple_of(value, 4) and whole(value[0], 0, len(rules) - 1) and told.pair(value[1:3]) \
            and told.chosen(value[3]) and value[1] not in value[3]

    if shown:
        return many_of(paper, deed, 0, 100)
    return many_of(pair[0], told.chosen, day + 1, day + 1) and many_of(pair[1], block) \
        and ascending(pair[1], lambda value: value[:3])


def four_faults(rule, order):
    for t, step in enumerate(order):
        if fours(rule, order[t:], step):
            yield "four", t


def stuck_faults(rule, rows):
    """The indices of the rows that are wrong."""
    steps = [row[:2] for row in rows if row[:2] in prices_by_pair(rule)]
    for r, row in enumerate(rows):
        if row[:2] not in steps or row[2:] not in fours(rule, steps, row[:2]):
            yield r


def is_trail(rule, trail):
    firsts, seconds = trail[::2], trail[1::2]
    if len(trail) % 2 == 0 or len(set(firsts)) < len(firsts) or len(set(seconds)) < len(seconds):
        return False
    if trail[0] != min(firsts):
        return False
    for t, u in product(range(len(firsts)), range(len(seconds))):
        if ((firsts[t], seconds[u]) in prices_by_pair(rule)) != (abs(2 * t - (2 * u + 1)) == 1):
            return False
    return True


def list_faults(rule, trails, upto, must_not):
    """must_not tells of a number of people whether no trail may close to a bare ring of so many."""
    allowed, shifts = prices_by_pair(rule), range(rule[0])
    for k, trail in enumerate(trails):
        if not is_trail(rule, trail):
            yield "trail", k
    for i in shifts:
        if (i,) not in trails:
            yield "start", i
    for k, trail in enumerate(trails):
        if len(trail) // 2 + 1 < upto:
            for j, i in product(shifts, repeat=2):
                more = trail + (j, i)
                if j not in trail[1::2] and i not in trail[::2] and i > trail[0] and is_trail(rule, more):
                    if more not in trails:
                        yield "next", k, j, i
    for k, trail in enumerate(trails):
        firsts = trail[::2]
        for j in shifts:
            if j not in trail[1::2] and len(firsts) >= 3 and must_not(len(firsts)):
                if [(i, j) in allowed for i in firsts] == [True] + [False] * (len(firsts) - 2) + [True]:
                    yield "close", k, j


def ring_faults(rule, ring, is_right):
    if ring not in bare_rings_by_words(rule):
        yield ("ring",)
    if not is_right(len(ring)):
        yield ("crew",)


def table_faults(rule, sums, table):
    for i, row in enumerate(table):
        for j, many in enumerate(row):
            if many and (i, j) not in prices_by_pair(rule):
                yield "barred", i, j
    rows, columns = sums_of_rows(table)
    for i in range(rule[0]):
        if rows[i] != sums[0][i]:
            yield "row", i
    for j in range(rule[0]):
        if columns[j] != sums[1][j]:
            yield "column", j


def barrier_faults(rule, sums, chosen):
    if chosen not in barriers_by_words(rule, sums):
        yield ("barrier",)


def order_faults(claim, shown, paper):
    if shown:
        yield from four_faults(claim[1], paper)
    else:
        for r in stuck_faults(claim[1], paper):
            yield "four", r


def crew_faults(claim, shown, paper):
    _, rule, m = claim
    if shown:
        for ring in paper[0]:
            yield from ring_faults(rule, ring, lambda many: many == m)
        yield from list_faults(rule, paper[1], rule[0], lambda many: many > m)
    elif paper[0] == "more":
        yield from ring_faults(rule, paper[1], lambda many: many > m)
    else:
        yield from list_faults(rule, paper[1], rule[0], lambda many: many >= m)


def joined_faults(claim, shown, paper):
    _, rule, n, r = claim
    if shown:
        yield from list_faults(rule, paper, min(n, rule[0]), lambda many: r < many <= n)
    else:
        yield from ring_faults(rule, paper, lambda many: r < many <= n)


def way_faults(claim, shown, paper):
    _, rule, table, other, r = claim
    rings = [ring for ring in rings_by_words(rule) if len(ring) <= r]
    if shown:
        for t, (ring, times) in enumerate(paper):
            after = turned_by_words(table, ring, times) if ring in rings else None
            if after is None:
                yield "turn", t
                return
            table = after
        if table != other:
            yield ("end",)
        return
    if table not in paper:
        yield ("start",)
    for t, told in enumerate(paper):
        for ring in sorted(rings):
            after = turned_by_words(told, ring, 1)
            if after is not None and after not in paper:
                yield "leads", t, ring
    if other in paper:
        yield ("end",)


def table_claim_faults(claim, shown, paper):
    yield from (table_faults if shown else barrier_faults)(claim[1], claim[2], paper)


def price_of(rule, table):
    return sum(table[i][j] * price for i, j, price in rule[1])


def potential_faults(rule, sums, potentials, is_right):
    u, v = potentials
    for i, j, price in rule[1]:
        if price < u[i] + v[j]:
            yield "step", i, j
    told = sum(a * number for a, number in zip(sums[0], u)) + sum(b * number for b, number in zip(sums[1], v))
    if not is_right(told):
        yield ("worth",)


def price_faults(claim, shown, paper):
    _, rule, sums, p = claim
    if shown and p is None:
        yield from barrier_faults(rule, sums, paper)
    elif shown:
        yield from table_faults(rule, sums, paper[0])
        if price_of(rule, paper[0]) != p:
            yield ("price",)
        yield from potential_faults(rule, sums, paper[1], lambda told: told == p)
    elif paper[0] == "none":
        yield from barrier_faults(rule, sums, paper[1])
    elif paper[0] == "bound":
        yield from potential_faults(rule, sums, paper[1], lambda told: told > p)
    else:
        yield from table_faults(rule, sums, paper[1])
        if p is not None and price_of(rule, paper[1]) >= p:
            yield ("price",)


def bound_of(kind, rule, sums, step, chosen):
    a, b = sums
    start = sum(a[i] for i in chosen)
    if kind == "most":
        return sum(b[j] for j in {step[1], *next_shifts_by_words(rule, chosen)}) - start
    return start - sum(b[j] for j in {j for i, j in prices_by_pair(rule) if i in chosen and (i, j) != step})


def limit_faults(claim, shown, paper):
    kind, rule, sums, (i, j), n = claim
    if shown and n is None:
        yield from barrier_faults(rule, sums, paper)
    elif shown:
        table, chosen = paper
        yield from table_faults(rule, sums, table)
        if table[i][j] != n:
            yield ("count",)
        if not (kind == "least" and n == 0) and bound_of(kind, rule, sums, (i, j), chosen) != n:
            yield ("bound",)
    elif paper[0] == "none":
        yield from barrier_faults(rule, sums, paper[1])
    elif paper[0] == "bound":
        told = bound_of(kind, rule, sums, (i, j), paper[1])
        if not (told < n if kind == "most" else told > n):
            yield ("bound",)
    else:
        yield from table_faults(rule, sums, paper[1])
        told = paper[1][i][j]
        if n is not None and not (told > n if kind == "most" else told < n):
            yield ("count",)


def mend_faults(claim, shown, paper):
    _, rule, options, n = claim

    def cost(choice):
        return sum(options[index][3] for index in choice)

    every = [
        chosen for many in range(len(options) + 1) for chosen in combinations(range(len(options)), many)
        if len({options[index][:2] for index in chosen}) == many
    ]
    every = sorted(every, key=lambda chosen: (cost(chosen), chosen))
    is_less = not shown and paper[0] == "less"
    if shown and n is not None or is_less:
        choice, order = paper[:2] if shown else paper[1:]
        if cost(choice) != n if shown else n is not None and cost(choice) >= n:
            yield ("cost",)
        yield from four_faults(changed_rule(rule, options, choice), order)
    if is_less:
        return
    sets = paper if shown and n is None else paper[2] if shown else paper[1]
    asked = [chosen for chosen in every if n is None or cost(chosen) < n or not shown and cost(chosen) == n]
    if len(sets) != len(asked):
        yield ("many",)
    for c, (chosen, rows) in enumerate(zip(asked, sets)):
        for r in stuck_faults(changed_rule(rule, options, chosen), rows):
            yield "set", c, r


def plan_faults(claim, shown, paper):
    plan = claim[1]
    if shown:
        for t, table in enumerate(paper):
            for fault in table_faults(plan[1][t], sums_of_plan(plan, t), table):
                yield "table", t, fault
    else:
        yield from barrier_faults(plan[1][paper[0]], sums_of_plan(plan, paper[0]), paper[1])


def row_faults(claim, shown, paper):
    _, plan, row = claim
    barred = [t for t in range(len(row) - 1) if (row[t], row[t + 1]) not in prices_by_pair(plan[1][t])]
    short = [t for t in range(len(row)) if plan[0][t][row[t]] == 0]
    if shown:
        for t in barred:
            yield "step", t
        for t in short:
            yield "short", t
        for t, table in enumerate(paper):
            for fault in table_faults(plan[1][t], others_of_plan(plan, row, t), table):
                yield "table", t, fault
    elif paper[0] == "step" and paper[1] not in barred:
        yield ("step",)
    elif paper[0] == "short" and paper[1] not in short:
        yield ("short",)
    elif paper[0] == "barrier":
        yield from barrier_faults(plan[1][paper[1]], others_of_plan(plan, row, paper[1]), paper[2])


def change_faults(rota, changes, is_right):
    rows, follow = list(rota[0]), list(rota[1])
    for k, (day, one, other) in enumerate(changes):
        if one == other or rows[one][day] != rows[other][day]:
            yield "change", k
            return
        first, second = rows[one], rows[other]
        rows[one], rows[other] = first[:day] + second[day:], second[:day] + first[day:]
        follow[one], follow[other] = follow[other], follow[one]
    if not is_right(len(rounds_by_words((rows, follow)))):
        yield ("rounds",)


def piece_faults(plan, rota, pieces, is_right):
    places = [(t, i) for t, need in enumerate(plan[0]) for i, many in enumerate(need) if many]
    for k, piece in enumerate(pieces):
        earlier = [place for told in pieces[:k] for place in told]
        if any(place not in places or place in earlier for place in piece):
            yield "place", k
            return
    if sorted(place for piece in pieces for place in piece) != sorted(places):
        yield ("lacks",)
        return
    within = {place: k for k, piece in enumerate(pieces) for place in piece}
    found = []
    for t, table in enumerate(tables_by_words(plan, rota)):
        for i, row in enumerate(table):
            for j, many in enumerate(row):
                ends = sorted((within[(t, i)], within[((t + 1) % len(plan[0]), j)])) if many else [0, 0]
                if ends[0] != ends[1]:
                    found.append(tuple(ends))
    for k, l in sorted(found):
        yield "joined", k, l
    if not is_right(len(pieces)):
        yield ("count",)


def rounds_faults(claim, shown, paper):
    _, plan, rota, n = claim
    if shown:
        yield from change_faults(rota, paper[0], lambda told: told == n)
        yield from piece_faults(plan, rota, paper[1], lambda told: told == n)
    elif paper[0] == "fewer":
        yield from change_faults(rota, paper[1], lambda told: told < n)
    else:
        yield from piece_faults(plan, rota, paper[1], lambda told: told > n)


def have_faults(claim, shown, paper):
    _, rules, rows, absent, person, day, shift = claim
    if shown:
        for k, (behind, people) in enumerate(paper):
            rows = handed_round(rows, behind, people)
            steps = [(rows[p][behind], rows[p][behind + 1]) for p in people]
            if set(people) & set(absent) or not all(step in prices_by_pair(rules[behind]) for step in steps):
                yield "deed", k
                return
        if rows[person][day] != shift:
            yield ("shift",)
        return
    sets, blocks = paper
    if rows[person][0] not in sets[0]:
        yield ("start",)
    if shift in sets[-1]:
        yield ("shift",)
    asked = [
        (t, i, j) for t in range(day) for i, j in sorted(prices_by_pair(rules[t]))
        if i in sets[t] and j not in sets[t + 1]
    ]
    for told in asked:
        if told not in [block[:3] for block in blocks]:
            yield ("wall",) + told
    for k, block in enumerate(blocks):
        if block[:3] not in asked:
            yield "more", k
    taking = [row for p, row in enumerate(rows) if p not in absent]
    for k, (t, i, j, chosen) in enumerate(blocks):
        sums = tuple(tuple([row[at] for row in taking].count(s) for s in range(rules[0][0])) for at in (t, t + 1))
        if bound_of("most", rules[t], sums, (i, j), chosen) != 0:
            yield "bound", k


FAULTS = {
    "order": order_faults, "crew": crew_faults, "joined": joined_faults, "way": way_faults, "table": table_claim_faults,
    "price": price_faults, "most": limit_faults, "least": limit_faults, "mend": mend_faults, "plan": plan_faults,
    "row": row_faults, "rounds": rounds_faults, "have": have_faults,
}


def first_fault_by_words(verdict, claim, paper):
    """The first fault of a certificate whose claim is a valid one."""
    if verdict not in ("shown", "broken") or not has_shape(verdict, claim, paper):
        return ("paper",)
    return next(FAULTS[claim[0]](claim, verdict == "shown", paper), None)
