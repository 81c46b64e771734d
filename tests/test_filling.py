"""Points 3 (orders) and 9, and Stage 6: filling."""

import unittest
from copy import deepcopy
from itertools import permutations, product
from random import Random

from swaprings.filling import filled, spoiled, spoiled_sums
from swaprings.orders import is_order, least_order
from swaprings.rules import steps_of
from swaprings.tables import price_of_table, require_sums, require_table, sums_of
from tests.samples import (
    BOTH, CLIMBING, EMPTY, FALLING, FULL, LATE, SIX, STEEP, fours, random_order, random_rules, random_sums,
    random_table, tables_with,
)

MOST = 10 ** 30
RANDOM_RULES = random_rules(41, 80, (2, 3, 4, 5))
RULES = [LATE, STEEP, SIX, EMPTY, BOTH, FULL, CLIMBING, FALLING] + RANDOM_RULES
ORDERLY = [rule for rule in RULES if least_order(rule) is not None]


def shuffled(random, steps):
    return tuple(random.sample(steps, len(steps)))


def filled_cell_by_cell(rule, steps, sums):
    rows, columns, on = list(sums[0]), list(sums[1]), {}
    for i, j in steps:
        on[i, j] = rows[i] if rows[i] < columns[j] else columns[j]
        rows[i] -= on[i, j]
        columns[j] -= on[i, j]
    shifts = range(rule[0])
    return tuple(tuple(on.get((i, j), 0) for j in shifts) for i in shifts), (tuple(rows), tuple(columns))


class Filled(unittest.TestCase):
    def test_step_by_step(self):
        sums = ((3, 2), (2, 3))
        self.assertEqual(filled(LATE, ((0, 1), (0, 0), (1, 0), (1, 1)), sums), (((0, 3), (2, 0)), ((0, 0), (0, 0))))
        self.assertEqual(filled(LATE, ((0, 0), (0, 1), (1, 0), (1, 1)), sums), (((2, 1), (0, 2)), ((0, 0), (0, 0))))
        self.assertEqual(filled(LATE, ((1, 1), (0, 0), (0, 1), (1, 0)), sums), (((2, 1), (0, 2)), ((0, 0), (0, 0))))

    def test_people_are_left_over(self):
        self.assertEqual(filled(STEEP, steps_of(STEEP), ((2, 1), (1, 2))), (((1, 0), (0, 1)), ((1, 0), (0, 1))))
        self.assertEqual(filled(STEEP, steps_of(STEEP), ((5, 0), (0, 5))), (((0, 0), (0, 0)), ((5, 0), (0, 5))))
        self.assertEqual(
            filled(STEEP, ((1, 0), (0, 0), (1, 1)), ((1, 1), (1, 1))), (((0, 0), (1, 0)), ((1, 0), (0, 1))),
        )
        self.assertEqual(filled(EMPTY, (), ((1, 0, 2), (0, 3, 0))), (((0, 0, 0),) * 3, ((1, 0, 2), (0, 3, 0))))

    def test_sums_of_nobody(self):
        for rule in RULES:
            zeros = (0,) * rule[0]
            self.assertEqual(filled(rule, steps_of(rule), (zeros, zeros)), ((zeros,) * rule[0], (zeros, zeros)))

    def test_very_many_people(self):
        self.assertEqual(
            filled(LATE, least_order(LATE), ((MOST, 0), (MOST - 1, 1))), (((MOST - 1, 1), (0, 0)), ((0, 0), (0, 0))),
        )
        self.assertEqual(filled(LATE, least_order(LATE), ((0, MOST), (0, MOST)))[0], ((0, 0), (0, MOST)))
        self.assertEqual(filled(STEEP, steps_of(STEEP), ((MOST, 0), (0, MOST)))[1], ((MOST, 0), (0, MOST)))

    def test_any_tuple_of_all_steps_and_any_sums(self):
        random, over = Random(42), set()
        for rule in RULES:
            for people in (1, 2, 7, 10 ** 9, MOST):
                sums, steps = random_sums(random, rule, people), shuffled(random, steps_of(rule))
                table, left = filled(rule, steps, sums)
                self.assertEqual((table, left), filled_cell_by_cell(rule, steps, sums))
                require_table(rule, table)
                placed = sums_of(table)
                for side in (0, 1):
                    self.assertEqual(tuple(map(sum, zip(placed[side], left[side]))), sums[side])
                over.add(any(left[0]))
        self.assertEqual(over, {True, False})


class Orders(unittest.TestCase):
    def test_by_an_order_no_table_is_cheaper(self):
        random, without = Random(43), 0
        for rule in ORDERLY:
            for people in (0, 1, 2, 3, 4):
                for sums in (random_sums(random, rule, people), sums_of(random_table(random, rule, people))):
                    tables = tables_with(rule, sums)
                    without += not tables
                    for order in (least_order(rule), random_order(random, rule)):
                        self.assertTrue(is_order(rule, order))
                        table, left = filled(rule, order, sums)
                        self.assertEqual(any(left[0] + left[1]), not tables)
                        if tables:
                            least = min(price_of_table(rule, other) for other in tables)
                            self.assertEqual(price_of_table(rule, table), least)
        self.assertGreater(without, 20)

    def test_by_all_sums_of_small_rules(self):
        for rule in [rule for rule in ORDERLY if rule[0] == 2]:
            for a, b, c, d in product(range(4), repeat=4):
                if a + b == c + d:
                    table, left = filled(rule, least_order(rule), ((a, b), (c, d)))
                    prices = [price_of_table(rule, other) for other in tables_with(rule, ((a, b), (c, d)))]
                    told = None if any(left[0]) else price_of_table(rule, table)
                    self.assertEqual(told, min(prices, default=None))


class Spoiled(unittest.TestCase):
    def test_of_rules_that_are_told(self):
        self.assertEqual(spoiled(LATE, steps_of(LATE)), (0, 0, 1, 1))
        self.assertEqual(spoiled_sums(LATE, steps_of(LATE)), ((1, 1), (1, 1)))
        self.assertEqual(spoiled(LATE, ((0, 1), (1, 1), (1, 0), (0, 0))), None)
        self.assertEqual(spoiled(STEEP, ((1, 0), (0, 0), (1, 1))), (1, 0, 0, 1))
        self.assertEqual(spoiled(SIX, steps_of(SIX)), (0, 0, 2, 1))
        self.assertEqual(spoiled_sums(SIX, steps_of(SIX)), ((1, 0, 1), (1, 1, 0)))
        self.assertEqual(spoiled(SIX, ((2, 0), (0, 0), (0, 1), (1, 1), (1, 2), (2, 2))), (2, 0, 0, 2))
        # (0, 0) may go first here, but then (0, 1) may not among those that are left.
        late = (3, ((0, 0, 0), (0, 1, 0), (0, 2, 0), (1, 1, 0), (2, 1, 0)))
        self.assertEqual(spoiled(late, steps_of(late)), (0, 1, 1, 2))
        self.assertEqual(spoiled_sums(late, steps_of(late)), ((1, 1, 0), (0, 1, 1)))
        self.assertEqual(spoiled(late, ((1, 1), (0, 0), (0, 1), (0, 2), (2, 1))), (0, 1, 2, 2))

    def test_none_exactly_for_an_order(self):
        for rule in [LATE, STEEP, SIX] + [rule for rule in RULES if len(rule[1]) < 6]:
            for steps in permutations(steps_of(rule)):
                self.assertIs(spoiled(rule, steps) is None, is_order(rule, steps))
                self.assertIs(spoiled_sums(rule, steps) is None, is_order(rule, steps))
        for rule in (EMPTY, (2, ()), (5, ())):
            self.assertEqual((spoiled(rule, ()), spoiled_sums(rule, ())), (None, None))

    def test_as_the_words_tell(self):
        random = Random(44)
        for rule in RULES:
            for steps in (steps_of(rule), shuffled(random, steps_of(rule)), shuffled(random, steps_of(rule))):
                told = [
                    step + min(fours(rule, steps[t:], step))
                    for t, step in enumerate(steps) if fours(rule, steps[t:], step)
                ]
                self.assertEqual(spoiled(rule, steps), told[0] if told else None)
            if rule in ORDERLY:
                self.assertIsNone(spoiled(rule, random_order(random, rule)))
                self.assertIsNone(spoiled_sums(rule, random_order(random, rule)))

    def test_filling_the_sums_goes_wrong(self):
        random, seen = Random(45), set()
        for rule in RULES:
            for steps in [steps_of(rule)] + [shuffled(random, steps_of(rule)) for _ in range(4)]:
                found, sums = spoiled(rule, steps), spoiled_sums(rule, steps)
                if found is None:
                    self.assertIsNone(sums)
                    continue
                i, j, k, l = found
                shifts = range(rule[0])
                self.assertIs(require_sums(rule, sums), sums)
                self.assertEqual(sums, (
                    tuple((shift == i) + (shift == k) for shift in shifts),
                    tuple((shift == j) + (shift == l) for shift in shifts),
                ))
                table, left = filled(rule, steps, sums)
                least = min(price_of_table(rule, other) for other in tables_with(rule, sums))
                seen.add(any(left[0]))
                self.assertTrue(any(left[0]) or price_of_table(rule, table) > least)
        self.assertEqual(seen, {True, False})

    def test_counts_are_integers(self):
        for count in spoiled_sums(LATE, steps_of(LATE))[0] + spoiled_sums(SIX, steps_of(SIX))[1]:
            self.assertIs(type(count), int)


class Arguments(unittest.TestCase):
    def test_by_name_in_any_order(self):
        steps, sums = steps_of(LATE), ((3, 2), (2, 3))
        self.assertEqual(filled(sums=sums, steps=steps, rule=LATE), filled(LATE, steps, sums))
        self.assertEqual(spoiled(steps=steps, rule=LATE), (0, 0, 1, 1))
        self.assertEqual(spoiled_sums(steps=steps, rule=LATE), ((1, 1), (1, 1)))

    def test_they_stay(self):
        steps, sums = steps_of(SIX), ((1, 2, 3), (3, 2, 1))
        before = deepcopy((SIX, steps, sums))
        told = (filled(SIX, steps, sums), spoiled(SIX, steps), spoiled_sums(SIX, steps))
        self.assertEqual((SIX, steps, sums), before)
        self.assertEqual((filled(SIX, steps, sums), spoiled(SIX, steps), spoiled_sums(SIX, steps)), told)


if __name__ == "__main__":
    unittest.main()
