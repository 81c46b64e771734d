"""Point 12 and Stage 9: potentials, their worth, and the least price."""

import unittest
from copy import deepcopy
from random import Random

from swaprings.barriers import barrier_for
from swaprings.filling import filled
from swaprings.orders import least_order
from swaprings.prices import cheapest, is_potentials, least_price, potentials_for, worth
from swaprings.tables import price_of_table, require_table, sums_of
from tests.samples import (
    BOTH, CLIMBING, EMPTY, FALLING, FULL, LATE, SIX, STEEP, drawn_sums, odd_values, random_rule, random_rules,
    random_table, round_rule, tables_with,
)

MOST = 10 ** 30
BOUND = 10 ** 6
# The cheapest step of all, (0, 0), is in no cheapest table of a person on each shift.
TEMPTING = (2, ((0, 0, -5), (0, 1, 0), (1, 0, 0), (1, 1, 20)))
# Its cheapest steps lead each of three people to where another one has to be.
TANGLED = (3, ((0, 0, 0), (0, 1, 1), (0, 2, 9), (1, 0, 1), (1, 1, 4), (1, 2, 9), (2, 0, 2), (2, 1, 3), (2, 2, 99)))


def priced_rules(seed, many):
    random = Random(seed)
    prices = ((0, 1), (-1, 0, 1), tuple(range(-99, 100)), (-99, 99), (0, 1, 3, 9, 27, 81))
    return [
        random_rule(random, random.choice((2, 3, 4, 5)), random.choice((50, 80, 100)), random.choice(prices))
        for _ in range(many)
    ]


RANDOM_RULES = random_rules(81, 60, (2, 3, 4, 5)) + priced_rules(82, 90)
RULES = [LATE, STEEP, SIX, EMPTY, BOTH, FULL, CLIMBING, FALLING, TEMPTING, TANGLED, round_rule(5), (2, ())]
RULES = RULES + RANDOM_RULES


def are_potentials_by_words(rule, u, v):
    return all(u[i] + v[j] <= price for i, j, price in rule[1]) and all(abs(number) <= BOUND for number in u + v)


def worth_by_words(sums, u, v):
    shifts = range(len(u))
    return sum(sums[0][i] * u[i] for i in shifts) + sum(sums[1][j] * v[j] for j in shifts)


class IsPotentials(unittest.TestCase):
    def test_of_late(self):
        for value in [((0, 0), (0, 0)), ((0, 1), (0, 1)), ((-4, 0), (0, 5)), ((-9, -9), (0, 0)), ((0, 1), (0, 0))]:
            self.assertIs(is_potentials(LATE, value), True, repr(value))
        for value in [((1, 0), (0, 0)), ((0, 0), (0, 2)), ((0, 2), (0, 0)), ((-1, 3), (0, 3)), ((0, 6), (-9, 0))]:
            self.assertIs(is_potentials(LATE, value), False, repr(value))

    def test_each_inequality_broken_by_one(self):
        random = Random(83)
        for rule in RULES:
            u = tuple(random.randrange(-200, 200) for _ in range(rule[0]))
            v = tuple(min([price - u[i] for i, j, price in rule[1] if j == end], default=5) for end in range(rule[0]))
            self.assertIs(is_potentials(rule, (u, v)), True)
            for i, j, price in rule[1]:
                close = u[:i] + (price - v[j],) + u[i + 1:]
                self.assertIs(is_potentials((rule[0], ((i, j, price),)), (close, v)), True)
                above = u[:i] + (price - v[j] + 1,) + u[i + 1:]
                self.assertIs(is_potentials((rule[0], ((i, j, price),)), (above, v)), False)
                self.assertIs(is_potentials(rule, (above, v)), False)
                more = tuple(number + 1 if end == j else number for end, number in enumerate(v))
                self.assertIs(is_potentials(rule, (u, more)), are_potentials_by_words(rule, u, more))

    def test_a_barred_pair_binds_nothing(self):
        self.assertIs(is_potentials(STEEP, ((0, 0), (0, 0))), True)
        self.assertIs(is_potentials(STEEP, ((0, -7), (0, 7))), True)
        self.assertIs(is_potentials(EMPTY, ((5, 5, 5), (BOUND, 0, 1))), True)

    def test_numbers_at_their_bounds_and_one_beyond(self):
        for rule in (EMPTY, (3, ((1, 1, 0),))):
            for least, most in [(-BOUND, BOUND), (-BOUND, 0), (0, BOUND)]:
                self.assertIs(is_potentials(rule, ((least, 0, most), (most, 0, least))), True)
            for beyond in (BOUND + 1, -BOUND - 1, 10 ** 79, -(10 ** 79)):
                for place in range(6):
                    numbers = tuple(beyond if at == place else -1 for at in range(6))
                    self.assertIs(is_potentials(rule, (numbers[:3], numbers[3:])), False)
        self.assertIs(is_potentials((2, ((0, 0, -99),)), ((BOUND, 0), (-BOUND, 0))), False)
        self.assertIs(is_potentials((2, ((0, 0, -99),)), ((BOUND - 99, 0), (-BOUND, 0))), True)

    def test_values_that_are_none(self):
        for value in [
            None, True, 0, "ab", (), ((0, 0),), ((0, 0), (0, 0), (0, 0)), [(0, 0), (0, 0)], ([0, 0], (0, 0)),
            ((0, 0), [0, 0]), ((0,), (0, 0)), ((0, 0), (0,)), ((0, 0, 0), (0, 0)), ((0, 0), (0, 0, 0)), ((), ()),
            ((0, 0), None), (None, (0, 0)), ((False, 0), (0, 0)), ((0, 0), (0, False)), ((0, True), (0, 0)),
            (("0", 0), (0, 0)), ((None, 0), (0, 0)), (((0,), 0), (0, 0)), ("00", "00"), {0: (0, 0), 1: (0, 0)},
            ({}, {}), ((0, 0), {0: 0, 1: 0}),
        ]:
            self.assertIs(is_potentials(LATE, value), False, repr(value))

    def test_any_value_is_answered_and_stays(self):
        for value in odd_values() + [((0, 0), value) for value in odd_values()]:
            before = deepcopy(value)
            held = isinstance(value, tuple) and len(value) == 2 and all(
                isinstance(part, tuple) and [repr(number) for number in part[:3]] in (["0", "0"], ["0", "1"])
                for part in value
            )
            self.assertIs(is_potentials(LATE, value), held, repr(value)[:80])
            self.assertEqual(value, before)


class Worth(unittest.TestCase):
    def test_sums_and_potentials(self):
        self.assertEqual(worth(((1, 1), (1, 1)), ((0, 1), (0, 1))), 2)
        self.assertEqual(worth(((3, 2), (2, 3)), ((-1, 10), (100, -1000))), -3 + 20 + 200 - 3000)
        self.assertEqual(worth(((0, 0), (0, 0)), ((5, 5), (5, 5))), 0)
        self.assertEqual(worth(((MOST, 0), (0, MOST)), ((-BOUND, 1), (1, -BOUND))), -2 * BOUND * MOST)

    def test_as_the_words_tell(self):
        random = Random(84)
        for rule in RULES:
            u, v = (tuple(random.randrange(-BOUND, BOUND) for _ in range(rule[0])) for _ in range(2))
            for people in (0, 3, MOST):
                sums = drawn_sums(random, rule, people)
                self.assertEqual(worth(sums, (u, v)), worth_by_words(sums, u, v))

    def test_no_table_costs_less(self):
        random = Random(85)
        for rule in RULES:
            u = tuple(random.randrange(-50, 50) for _ in range(rule[0]))
            v = tuple(min([price - u[i] for i, j, price in rule[1] if j == end], default=0) for end in range(rule[0]))
            table = random_table(random, rule, 20)
            self.assertTrue(is_potentials(rule, (u, v)))
            self.assertLessEqual(worth(sums_of(table), (u, v)), price_of_table(rule, table))


class LeastPrice(unittest.TestCase):
    def check(self, rule, sums):
        """Looks at the three answers; returns the least price."""
        price, table, potentials = least_price(rule, sums), cheapest(rule, sums), potentials_for(rule, sums)
        if price is None:
            self.assertEqual((table, potentials), (None, None))
            self.assertIsNotNone(barrier_for(rule, sums))
            return None
        self.assertIs(require_table(rule, table), table)
        self.assertEqual(sums_of(table), sums)
        self.assertEqual(price_of_table(rule, table), price)
        self.assertIs(is_potentials(rule, potentials), True)
        self.assertTrue(are_potentials_by_words(rule, *potentials))
        self.assertEqual(worth_by_words(sums, *potentials), price)
        self.assertEqual(worth(sums, potentials), price)
        return price

    def test_of_rules_that_are_told(self):
        self.assertEqual(self.check(LATE, ((1, 1), (1, 1))), 2)
        self.assertEqual(self.check(LATE, ((2, 3), (1, 4))), 13)
        self.assertEqual(self.check(SIX, ((2, 1, 1), (1, 2, 1))), 0)
        self.assertIsNone(self.check(STEEP, ((2, 1), (1, 2))))
        self.assertIsNone(self.check(STEEP, ((MOST, 0), (MOST - 1, 1))))
        self.assertEqual(self.check((2, ((0, 0, -99), (1, 1, 99))), ((MOST, 0), (MOST, 0))), -99 * MOST)
        self.assertEqual(self.check((2, ((0, 0, -99), (1, 1, 99))), ((0, MOST), (0, MOST))), 99 * MOST)

    def test_the_cheapest_step_must_not_be_taken_first(self):
        self.assertEqual(self.check(TEMPTING, ((1, 1), (1, 1))), 0)
        self.assertEqual(cheapest(TEMPTING, ((1, 1), (1, 1))), ((0, 1), (1, 0)))
        self.assertEqual(self.check(TEMPTING, ((2, 1), (2, 1))), -5)
        self.assertEqual(cheapest(TEMPTING, ((MOST - 1, 1), (MOST - 1, 1))), ((MOST - 2, 1), (1, 0)))
        self.assertEqual(self.check(TANGLED, ((1, 1, 1), (1, 1, 1))), 12)
        self.assertEqual(self.check(TANGLED, ((5, 1, 1), (1, 1, 5))), 5 * 9 + 2 + 1)

    def test_nobody_and_no_steps(self):
        for rule in RULES:
            zeros = (0,) * rule[0]
            self.assertEqual(self.check(rule, (zeros, zeros)), 0)
            self.assertEqual(cheapest(rule, (zeros, zeros)), (zeros,) * rule[0])
        self.assertIsNone(self.check(EMPTY, ((0, 0, 1), (1, 0, 0))))
        self.assertIsNone(self.check((2, ()), ((MOST, 0), (MOST, 0))))

    def test_all_tables_of_few_people(self):
        random, seen = Random(86), {True: 0, False: 0}
        for rule in RULES:
            for people in (1, 2, 3, 4, 5):
                sums = drawn_sums(random, rule, people)
                prices = [price_of_table(rule, table) for table in tables_with(rule, sums)]
                self.assertEqual(self.check(rule, sums), min(prices, default=None), (rule, sums))
                seen[prices == []] += 1
        self.assertGreater(min(seen.values()), 100)

    def test_many_people(self):
        random, seen = Random(87), {True: 0, False: 0}
        for rule in RULES:
            for people in (20, 1000, 10 ** 9, MOST - 1, MOST, MOST):
                price = self.check(rule, drawn_sums(random, rule, people))
                seen[price is None] += 1
        self.assertGreater(min(seen.values()), 100)

    def test_numbers_of_very_different_sizes(self):
        random = Random(88)
        for rule in priced_rules(89, 60) + [FULL, CLIMBING, FALLING]:
            for _ in range(4):
                rows = [[0] * rule[0] for _ in range(rule[0])]
                for i, j, _ in rule[1]:
                    rows[i][j] = random.choice((0, 1, 2, 10 ** random.randrange(28), 7 ** random.randrange(33)))
                sums = sums_of(rows)
                self.assertLessEqual(self.check(rule, sums), price_of_table(rule, rows))

    def test_filling_by_an_order_costs_the_same(self):
        random, seen = Random(90), 0
        for rule in RULES:
            order = least_order(rule)
            for people in (3, 12, MOST):
                sums = drawn_sums(random, rule, people)
                if order is not None:
                    seen += 1
                    table, left = filled(rule, order, sums)
                    told = None if any(left[0]) else price_of_table(rule, table)
                    self.assertEqual(self.check(rule, sums), told)
        self.assertGreater(seen, 100)


class Arguments(unittest.TestCase):
    def test_by_name_in_any_order(self):
        sums = ((2, 3), (1, 4))
        self.assertIs(is_potentials(value=((0, 1), (0, 1)), rule=LATE), True)
        self.assertEqual(worth(potentials=((0, 1), (0, 1)), sums=sums), 7)
        self.assertEqual(cheapest(sums=sums, rule=LATE), cheapest(LATE, sums))
        self.assertEqual(least_price(sums=sums, rule=LATE), 13)
        self.assertEqual(potentials_for(sums=sums, rule=LATE), potentials_for(LATE, sums))

    def test_they_stay(self):
        sums, potentials = ((5, 1, 1), (1, 1, 5)), ((0, 0, 0), (0, 0, 0))
        before = deepcopy((TANGLED, sums, potentials))

        def told():
            answers = (cheapest(TANGLED, sums), least_price(TANGLED, sums), potentials_for(TANGLED, sums))
            return answers + (is_potentials(TANGLED, potentials), worth(sums, potentials))

        self.assertEqual(told(), told())
        self.assertEqual((TANGLED, sums, potentials), before)


if __name__ == "__main__":
    unittest.main()
