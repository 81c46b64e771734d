"""Points 11 and 16 and Stage 12: plans, their rosters, and the rows that fit."""

import unittest
from copy import deepcopy
from itertools import product
from random import Random

from swaprings.errors import InvalidPlan
from swaprings.plans import (
    cheapest_roster, first_barrier, is_endless, require_plan, roster_for, row_fits, sums_for,
)
from swaprings.tables import price_of_table, require_table, sums_of
from tests.samples import (
    EMPTY, LATE, SIX, STEEP, barriers_by_words, odd_values, others_of_plan, prices_by_pair, random_plan, sums_of_plan,
    tables_with,
)

MOST = 10 ** 30
WEEK = (((1, 1), (2, 0), (1, 1)), (LATE, LATE))
ENDLESS = (((1, 1), (2, 0), (1, 1)), (LATE, LATE, LATE))


def rows_of(plan):
    return list(product(range(plan[1][0][0]), repeat=len(plan[0])))


def fits_by_words(plan, row):
    """Whether the row fits, by all tables of the others."""
    if any((row[t], row[t + 1]) not in prices_by_pair(plan[1][t]) for t in range(len(row) - 1)):
        return False
    if any(plan[0][t][shift] == 0 for t, shift in enumerate(row)):
        return False
    return all(tables_with(rule, others_of_plan(plan, row, t)) for t, rule in enumerate(plan[1]))


class RequirePlan(unittest.TestCase):
    def refused(self, value):
        with self.assertRaises(InvalidPlan) as caught:
            require_plan(value)
        return caught.exception.part

    def test_right_ones_are_returned(self):
        right = [WEEK, ENDLESS, (((0, 0),), (LATE,)), (((MOST, 0), (0, MOST)), (STEEP,)), (((0,) * 3,) * 7, (SIX,) * 6),
                 (((0,) * 3,) * 7, (SIX,) * 7), (((0,) * 3, (0,) * 3), (SIX, EMPTY)), (((MOST - 1, 1),), (LATE,))]
        for plan in right:
            self.assertIs(require_plan(plan), plan)
        random = Random(160)
        for _ in range(100):
            plan = random_plan(random, random.choice((2, 3, 4, 5)), random.choice((0, 3, MOST)), closed=True)
            self.assertIs(require_plan(plan), plan)

    def test_no_pair_or_wrong_numbers(self):
        day, rule = (1, 1), LATE
        wrong = [
            None, (), ((day,),), ((day,), (rule,), ()), [(day,), (rule,)], ([day], (rule,)), ((day,), [rule]), ((), ()),
            ((), (rule,)), ((day,), ()), ((day,), (rule,) * 2), ((day,) * 2, ()), ((day,) * 2, (rule,) * 3),
            ((day,) * 3, (rule,)), ((day,) * 3, (rule,) * 4), ((day,) * 7, (rule,) * 5), ((day,) * 7, (rule,) * 8),
            ((day,) * 8, (rule,) * 8), ((day,) * 8, (rule,) * 7), "ab", ("a", "b"), ({0: day}, {0: rule}),
        ]
        for value in wrong:
            self.assertIsNone(self.refused(value), value)

    def test_each_rule(self):
        wrong = [None, 5, (), (2,), [2, ()], (1, ()), (6, ()), (True, ()), (2, []), (2, ((0, 2, 0),)), SIX, EMPTY,
                 (2, ((1, 1, 0), (0, 0, 0))), (2, ((0, 0, 100),)), (2, ((0, 0, True),))]
        for value in wrong:
            for place in range(1, 4):
                rules = (LATE,) * place + (value,) + (STEEP,) * (3 - place)
                self.assertEqual(self.refused((((1, 1),) * 4, rules)), ("rule", place), value)
            if value not in (SIX, EMPTY):
                self.assertEqual(self.refused((((1, 1),) * 2, (value, value))), ("rule", 0), value)
        self.assertEqual(self.refused((((1, 1),) * 2, (SIX, LATE))), ("rule", 1))
        self.assertEqual(self.refused((((1, 1, 1),) * 3, (SIX, EMPTY, LATE))), ("rule", 2))

    def test_each_need(self):
        wrong = [None, 5, (), (2,), (1, 1, 0), [1, 1], "11", (1, -1), (3, -1), (True, True), (1, True), (2.0, 0),
                 (1, None), ((1,), 1), (MOST + 1, 0)]
        for value in wrong:
            for place in range(4):
                needs = ((2, 0),) * place + (value,) + ((0, 2),) * (3 - place)
                for rules in ((LATE,) * 3, (LATE,) * 4):
                    self.assertEqual(self.refused((needs, rules)), ("need", place), value)

    def test_totals(self):
        self.assertEqual(self.refused((((1, 1), (1, 0), (2, 0)), (LATE, LATE))), ("need", 1))
        self.assertEqual(self.refused((((1, 1), (2, 0), (2, 1)), (LATE, LATE))), ("need", 2))
        self.assertEqual(self.refused((((1, 0), (2, 0), (2, 1)), (LATE, LATE))), ("need", 1))
        self.assertEqual(self.refused((((MOST, 1), (MOST, 1)), (LATE,))), ("need", 0))
        self.assertEqual(self.refused((((MOST, 0), (MOST, 1)), (LATE,))), ("need", 1))
        self.assertEqual(self.refused((((MOST + 1, 0),), (LATE,))), ("need", 0))
        half = 5 * 10 ** 29
        self.assertEqual(require_plan((((half, half), (MOST, 0)), (LATE,)))[0][0], (half, half))

    def test_the_fault_listed_first_is_told(self):
        self.assertIsNone(self.refused(((None,) * 3, (None,))))
        self.assertEqual(self.refused(((None, (1, 1)), (LATE, None))), ("rule", 1))
        self.assertEqual(self.refused((((1, 1, 1), None), (LATE, SIX))), ("rule", 1))
        self.assertEqual(self.refused(((None, (1, 1), None), (LATE, None, 5))), ("rule", 1))
        self.assertEqual(self.refused(((None, (1, 1), None), (LATE, LATE))), ("need", 0))
        self.assertEqual(self.refused((((1, 1), (2, 1), None), (LATE, LATE))), ("need", 1))

    def test_any_value(self):
        for value in odd_values():
            self.assertIn(self.refused(value), (None, ("rule", 0)))
            self.assertEqual(self.refused((((1, 1), (1, 1)), (LATE, value))), ("rule", 1))
            place = 1 if value in ((0, 0), (0, 1)) else 0
            self.assertEqual(self.refused(((value, (1, 1)), (LATE,))), ("need", place))
            self.assertIn(self.refused((value, value)), (None, ("rule", 0)))


class Plans(unittest.TestCase):
    def check(self, plan):
        """Checks all but the rows against each other; tells whether there is a roster."""
        roster, cheap, barrier = roster_for(plan), cheapest_roster(plan), first_barrier(plan)
        self.assertIs(is_endless(plan), len(plan[0]) == len(plan[1]))
        found = [barriers_by_words(rule, sums_of_plan(plan, t)) for t, rule in enumerate(plan[1])]
        for t in range(len(plan[1])):
            self.assertEqual(sums_for(plan, t), sums_of_plan(plan, t))
        if barrier is not None:
            t, chosen = barrier
            self.assertEqual((roster, cheap, found[:t]), (None, None, [[]] * t))
            self.assertIn(chosen, found[t])
            return False
        self.assertFalse(any(found))
        for tables in (roster, cheap):
            self.assertIsInstance(tables, tuple)
            self.assertEqual(len(tables), len(plan[1]))
            for t, rule in enumerate(plan[1]):
                require_table(rule, tables[t])
                self.assertEqual(sums_of(tables[t]), sums_of_plan(plan, t))
        return True

    def test_the_example_and_its_endless_kin(self):
        self.assertTrue(self.check(WEEK))
        self.assertTrue(self.check(ENDLESS))
        self.assertEqual(sums_for(ENDLESS, 2), ((1, 1), (1, 1)))
        self.assertEqual(sums_for((((3, 1), (2, 2)), (LATE, LATE)), 1), ((2, 2), (3, 1)))
        self.assertEqual(sums_for((((3, 1),), (LATE,)), 0), ((3, 1), (3, 1)))

    def test_the_first_barrier(self):
        self.assertEqual(first_barrier((((2, 1), (2, 1), (1, 2), (0, 3)), (STEEP,) * 3)), (1, (0,)))
        self.assertEqual(first_barrier((((0, 3), (1, 2), (2, 1)), (STEEP,) * 3)), (2, (0,)))
        self.assertIsNone(first_barrier((((0, 3), (1, 2), (2, 1)), (STEEP,) * 2)))

    def test_drawn_plans(self):
        random, seen = Random(162), {}
        for _ in range(400):
            plan = random_plan(random, random.choice((2, 3, 4, 5)), random.choice((0, 1, 4, 9)))
            key = self.check(plan), is_endless(plan)
            seen[key] = seen.get(key, 0) + 1
        self.assertEqual(len(seen), 4)
        self.assertGreater(min(seen.values()), 20, seen)

    def test_many_people(self):
        random, seen = Random(163), {True: 0, False: 0}
        for _ in range(150):
            seen[self.check(random_plan(random, random.choice((2, 3, 5)), MOST, random.randrange(1, 8), True, 85))] += 1
        self.assertGreater(min(seen.values()), 10)

    def test_cheapest_against_all_rosters(self):
        random, seen = Random(164), 0
        for _ in range(300):
            plan = random_plan(random, random.choice((2, 3)), random.choice((1, 2, 3)), random.randrange(1, 4), chance=90)
            tables = [tables_with(rule, sums_of_plan(plan, t)) for t, rule in enumerate(plan[1])]
            prices = [sum(price_of_table(rule, table) for rule, table in zip(plan[1], roster))
                      for roster in product(*tables)]
            roster = cheapest_roster(plan)
            self.assertEqual(roster is None, not prices)
            if prices:
                told = sum(price_of_table(rule, table) for rule, table in zip(plan[1], roster))
                self.assertEqual(told, min(prices))
                seen += min(prices) < max(prices)
        self.assertGreater(seen, 20)


class RowFits(unittest.TestCase):
    def test_the_example(self):
        self.assertEqual([row for row in rows_of(WEEK) if row_fits(WEEK, row)],
                         [(0, 0, 0), (0, 0, 1), (1, 0, 0), (1, 0, 1)])

    def test_nobody_is_needed_on_a_shift(self):
        plan = (((2, 0), (1, 1)), (LATE,))
        self.assertEqual([row_fits(plan, row) for row in rows_of(plan)], [True, True, False, False])

    def test_nobody_is_needed_at_all(self):
        for plan in ((((0, 0),), (LATE,)), (((0, 0), (0, 0)), (LATE,))):
            self.assertEqual([row_fits(plan, row) for row in rows_of(plan)], [False] * len(rows_of(plan)))

    def test_a_barred_step(self):
        plan = (((2, 1), (2, 1)), (STEEP,))
        self.assertEqual([row_fits(plan, row) for row in rows_of(plan)], [True, False, False, True])
        self.assertEqual([row_fits((((1, 2), (2, 1)), (STEEP,)), row) for row in rows_of(plan)],
                         [True, False, True, True])

    def test_the_others_do_not_come_through(self):
        # Who goes from 1 to 0 leaves nobody for 1 but from 0, whence no step leads there.
        self.assertIs(row_fits((((1, 1), (1, 1)), (STEEP,)), (1, 0)), False)

    def test_the_closing_rule(self):
        # The closing rule is asked for a table with its sums as they are, and does not bind the row.
        plan = (((1, 1), (1, 1)), (LATE, STEEP))
        self.assertTrue(all(row_fits(plan, row) for row in rows_of(plan)))
        self.assertFalse(any(row_fits((((2, 0), (1, 1)), (LATE, (2, ((0, 0, 0),)))), row) for row in rows_of(plan)))
        one_day = (((2, 1),), ((2, ((0, 0, 0), (1, 1, 0))),))
        self.assertEqual([row_fits(one_day, (0,)), row_fits(one_day, (1,))], [True, True])
        self.assertFalse(row_fits((((2, 1),), ((2, ((0, 1, 0), (1, 0, 0))),)), (0,)))

    def test_against_all_rosters_of_few_people(self):
        random, seen = Random(165), {}
        for _ in range(300):
            plan = random_plan(random, random.choice((2, 3)), random.choice((1, 2, 3, 4)), random.randrange(1, 5))
            for row in rows_of(plan):
                told = row_fits(plan, row)
                self.assertIs(told, fits_by_words(plan, row), (plan, row))
                key = told, is_endless(plan)
                seen[key] = seen.get(key, 0) + 1
        self.assertGreater(min(seen.values()), 100, seen)
        self.assertEqual(len(seen), 4)

    def test_rows_of_a_roster_fit(self):
        # With a row that fits each step is one that somebody makes in some roster, and the other way round.
        random = Random(166)
        for _ in range(60):
            plan = random_plan(random, 3, 3, random.randrange(2, 4), False)
            rosters = list(product(*[tables_with(rule, sums_of_plan(plan, t)) for t, rule in enumerate(plan[1])]))
            for row in rows_of(plan):
                made = any(all(roster[t][row[t]][row[t + 1]] for t in range(len(row) - 1)) for roster in rosters)
                self.assertEqual(row_fits(plan, row), made)

    def test_many_people_and_days(self):
        random = Random(167)
        for _ in range(60):
            plan = random_plan(random, 5, MOST, 7, random.random() < 0.5, 95)
            for _ in range(5):
                row = tuple(random.randrange(5) for _ in range(7))
                right = all((row[t], row[t + 1]) in prices_by_pair(plan[1][t]) for t in range(6)) \
                    and all(plan[0][t][shift] for t, shift in enumerate(row)) \
                    and not any(barriers_by_words(rule, others_of_plan(plan, row, t))
                                for t, rule in enumerate(plan[1]))
                self.assertIs(row_fits(plan, row), right)


class Arguments(unittest.TestCase):
    def test_by_name_in_any_order(self):
        self.assertEqual(require_plan(value=WEEK), WEEK)
        self.assertIs(is_endless(plan=WEEK), False)
        self.assertEqual(sums_for(t=1, plan=WEEK), ((2, 0), (1, 1)))
        self.assertEqual(roster_for(plan=WEEK), (((1, 0), (1, 0)), ((1, 1), (0, 0))))
        self.assertIsNone(first_barrier(plan=WEEK))
        self.assertEqual(cheapest_roster(plan=WEEK), (((1, 0), (1, 0)), ((1, 1), (0, 0))))
        self.assertIs(row_fits(row=(0, 0, 1), plan=WEEK), True)

    def test_they_stay(self):
        wrong = ([[1, 1], {"a": [2]}], (LATE, [3]))
        before = deepcopy((wrong, ENDLESS))
        with self.assertRaises(InvalidPlan):
            require_plan(wrong)

        def told():
            rows = [row_fits(ENDLESS, row) for row in rows_of(ENDLESS)]
            return rows + [roster_for(ENDLESS), cheapest_roster(ENDLESS), first_barrier(ENDLESS), sums_for(ENDLESS, 2)]

        self.assertEqual(told(), told())
        self.assertEqual((wrong, ENDLESS), before)


if __name__ == "__main__":
    unittest.main()
