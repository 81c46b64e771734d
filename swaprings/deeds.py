"""Deeds: people change places behind a day; which rows they can lead to, and by which deeds."""

from swaprings.limits import MOST, idle_steps, table_at
from swaprings.orders import least_order
from swaprings.prices import least_price
from swaprings.rules import first_wrong_rule, steps_of
from swaprings.tables import cells_between, price_of_table, steps_behind, sums_of
from swaprings.values import is_tuple_of, is_whole
from swaprings.ways import agreeing_turns, calm_way, parts_of

MOST_RULES = 6
MOST_PEOPLE_OF_ROSTER = 12
ANY_NUMBER = 12


def are_rules(value):
    """Tells whether the value is a tuple that may hold the rules of a roster of people."""
    return isinstance(value, tuple) and 1 <= len(value) <= MOST_RULES


def are_rows(value):
    """Tells whether the value is a tuple that may hold the rows of a roster of people."""
    return isinstance(value, tuple) and 1 <= len(value) <= MOST_PEOPLE_OF_ROSTER


def are_people_of_rules(rules, rows):
    """Tells whether the values are the rules and the rows of a roster of people."""
    if not are_rules(rules) or first_wrong_rule(rules) is not None:
        return False
    return are_rows(rows) and first_wrong_row(rules, rows) is None


def first_wrong_row(rules, values):
    """Returns the index of the first that is no row with allowed steps, None if there is none."""
    allowed = [steps_of(rule) for rule in rules]
    for index, value in enumerate(values):
        if not is_tuple_of(value, len(rules) + 1):
            return index
        if not all([is_whole(shift, 0, rules[0][0] - 1) for shift in value]):
            return index
        if not all([step_of(value, day) in steps for day, steps in enumerate(allowed)]):
            return index
    return None


def step_of(row, day):
    """Returns the row's step from the day to the next."""
    return row[day], row[day + 1]


def table_of(rules, rows, people, day):
    """Returns the table of these people from the day to the next."""
    shifts = rules[day][0]
    cells = [[0] * shifts for _ in range(shifts)]
    for person in people:
        i, j = step_of(rows[person], day)
        cells[i][j] = cells[i][j] + 1
    return tuple([tuple(row) for row in cells])


def steps_of_deed(rows, day, people):
    """Returns the new steps from the day to the next, person by person."""
    return [(rows[person][day], rows[giver][day + 1]) for person, giver in zip(people, people[1:] + people[:1])]


def first_barred_step(rule, steps):
    """Returns the first of the steps that the rule bars, or None."""
    allowed = steps_of(rule)
    for step in steps:
        if step not in allowed:
            return step
    return None


def rows_behind(rows, day, people):
    """Returns the rows behind the deed."""
    found = list(rows)
    for person, giver in zip(people, people[1:] + people[:1]):
        found[person] = rows[person][:day + 1] + rows[giver][day + 1:]
    return tuple(found)


def steps_in_reach(rules, rows, taking, day):
    """Returns the steps behind the day on which there can be somebody of those who take part."""
    idle = idle_steps(rules[day], sums_of(table_of(rules, rows, taking, day)))
    return [step for step in steps_of(rules[day]) if step not in idle]


def shifts_in_reach(rules, rows, taking, person, day):
    """Returns for each day up to this one the ascending tuple of the shifts that the person can have."""
    # What goes on behind a day does not bind the others, and who is on a shift can change with all who are on it.
    sets = [(rows[person][0],)]
    for t in range(day):
        ends = [j for i, j in steps_in_reach(rules, rows, taking, t) if i in sets[t]]
        sets.append(tuple(sorted(set(ends))))
    return tuple(sets)


def deeds_to_shift(rules, rows, taking, most, wish):
    """Returns deeds of at most most people that lead to the wish (person, day, shift), which is in reach."""
    person, day, shift = wish
    if rows[person][day] == shift:
        return ()
    deeds = []
    for t, j in enumerate(_path_to(rules, rows, taking, wish)):
        rows, more = _deeds_to_step(rules, rows, taking, most, (person, t, j))
        deeds.extend(more)
    return tuple(deeds)


def _path_to(rules, rows, taking, wish):
    """Returns a shift for each day behind the first one up to the wish's, along steps that can be made."""
    person, day, shift = wish
    sets = shifts_in_reach(rules, rows, taking, person, day)
    path = [shift]
    for t in range(day - 1, 0, -1):
        starts = [i for i, j in steps_in_reach(rules, rows, taking, t) if j == path[-1] and i in sets[t]]
        path.append(rows[person][t] if rows[person][t] in starts else starts[0])
    return path[::-1]


def _deeds_to_step(rules, rows, taking, most, wish):
    """Returns the rows behind deeds by which the person goes from the day's shift to this one, and these deeds."""
    person, t, j = wish
    i, old = step_of(rows[person], t)
    if old == j:
        return rows, []
    if _people_on(rows, t, (i, j), taking):
        return _exchanged(rows, t, person, (i, j), taking)
    ring = _ring_onto(rules[t], table_of(rules, rows, taking, t), (i, j))
    rows, deeds = _exchanged(rows, t, person, [step for step in ring if step[0] == i][0], taking)
    rows, more = _deeds_along(rows, t, parts_of(rules[t], ring, most), taking, person)
    return rows, deeds + more


def _people_on(rows, day, step, taking):
    """Returns those who take part and are on the step behind the day."""
    return [person for person in taking if step_of(rows[person], day) == step]


def _exchanged(rows, day, person, step, taking):
    """Returns the rows behind an exchange by which the person is on the step of somebody, and its deed, if any."""
    if step_of(rows[person], day) == step:
        return rows, []
    pair = (person, _people_on(rows, day, step, taking)[0])
    return rows_behind(rows, day, pair), [(day, pair)]


def _ring_onto(rule, table, step):
    """Returns a ring by which somebody goes onto the step, on which nobody is but can be."""
    turns = agreeing_turns(cells_between(table, table_at(MOST, rule, sums_of(table), step)))
    return [ring for ring, _ in turns if step in steps_behind(ring)][0]


def _deeds_along(rows, day, rings, taking, favoured):
    """Returns the rows behind the rings, and the deeds that do them, with the favoured person wherever that can be."""
    deeds = []
    for ring in rings:
        people = []
        for step in ring:
            held = _people_on(rows, day, step, taking)
            people.append(favoured if favoured in held else held[0])
        deeds.append((day, tuple(people)))
        rows = rows_behind(rows, day, tuple(people))
    return rows, deeds


def are_in_reach(rows, taking, wanted):
    """Tells whether deeds of those who take part can lead to the wanted rows."""
    for person, row in enumerate(rows):
        if row[0] != wanted[person][0] or (person not in taking and row != wanted[person]):
            return False
    return all([_shifts_on(rows, day) == _shifts_on(wanted, day) for day in range(len(rows[0]))])


def _shifts_on(rows, day):
    return sorted([row[day] for row in rows])


def deeds_to_rows(rules, rows, taking, most, wanted):
    """Returns deeds of at most most people that lead to the wanted rows, which are in reach."""
    deeds = []
    for t, rule in enumerate(rules):
        turns = agreeing_turns(cells_between(table_of(rules, rows, taking, t), table_of(rules, wanted, taking, t)))
        rings = [part for ring, times in turns for _ in range(times) for part in parts_of(rule, ring, most)]
        rows, more = _deeds_along(rows, t, rings, taking, None)
        deeds.extend(more)
        # Now each step has as many people as it shall have, only some of them may be the wrong ones.
        for place, person in enumerate(taking):
            rows, more = _exchanged(rows, t, person, step_of(wanted[person], t), taking[place:])
            deeds.extend(more)
    return tuple(deeds)


def settling_deeds(rules, rows, taking):
    """Returns exchanges, none of which makes the price greater, to tables of the least price; all rules have orders."""
    deeds = []
    for t, rule in enumerate(rules):
        table = table_of(rules, rows, taking, t)
        least = least_price(rule, sums_of(table))
        way = calm_way(rule, least_order(rule), table)
        rings = [turned for turned, times in way for _ in range(times)]
        for ring in rings:
            if price_of_table(rule, table_of(rules, rows, taking, t)) == least:
                break
            rows, more = _deeds_along(rows, t, [ring], taking, None)
            deeds.extend(more)
    return tuple(deeds)
