"""Point 13 and Stage 9: the most and the least of a step."""

import unittest
from copy import deepcopy
from random import Random

from swaprings.limits import idle_steps, least_of, lower, most_of, sure_steps, upper
from swaprings.rules import steps_of
from swaprings.tables import sums_of
from tests.samples import (
    BOTH, EMPTY, FULL, LATE, SIX, STEEP, all_sets_of, barriers_by_words, drawn_sums, prices_by_pair, random_rules,
    random_table, round_rule, tables_with,
)

MOST = 10 ** 30
RANDOM_RULES = random_rules(91, 110, (2, 3, 4, 5))
RULES = [LATE, STEEP, SIX, EMPTY, BOTH, FULL, round_rule(4), round_rule(5), (2, ())] + RANDOM_RULES
FIVE = ((2, 3), (1, 4))


def upper_by_words(rule, sums, step, chosen):
    ends = {step[1]} | {j for k, j in prices_by_pair(rule) if k in chosen}
    return sum(sums[1][j] for j in ends) - sum(sums[0][k] for k in chosen)


def lower_by_words(rule, sums, step, chosen):
    ends = {j for k, j in prices_by_pair(rule) if k in chosen and (k, j) != step}
    return sum(sums[0][k] for k in chosen) - sum(sums[1][j] for j in ends)


def most_by_words(rule, sums, step):
    return min(upper_by_words(rule, sums, step, chosen) for chosen in all_sets_of(rule[0]) if step[0] not in chosen)


def least_by_words(rule, sums, step):
    return max([0] + [
        lower_by_words(rule, sums, step, chosen) for chosen in all_sets_of(rule[0]) if step[0] in chosen
    ])


class Bounds(unittest.TestCase):
    def test_of_late(self):
        self.assertEqual([upper(LATE, FIVE, (1, 1), chosen) for chosen in [(), (0,)]], [4, 3])
        self.assertEqual([upper(LATE, FIVE, (0, 0), chosen) for chosen in [(), (1,)]], [1, 2])
        self.assertEqual([lower(LATE, FIVE, (1, 1), chosen) for chosen in [(1,), (0, 1)]], [2, 0])
        self.assertEqual([lower(LATE, FIVE, (0, 0), chosen) for chosen in [(0,), (0, 1)]], [-2, 0])

    def test_of_rules_with_barred_pairs(self):
        sums = ((2, 1, 1), (1, 2, 1))
        # From 0 steps lead to 0 and 1, from 2 to 0 and 2; none of them leads to 2, or to 1.
        self.assertEqual([upper(SIX, sums, (1, 2), chosen) for chosen in [(), (0,), (2,), (0, 2)]], [1, 2, 1, 1])
        self.assertEqual([lower(SIX, sums, (1, 2), chosen) for chosen in [(1,), (0, 1), (1, 2), (0, 1, 2)]],
                         [-1, 0, -2, 0])
        self.assertEqual(lower((2, ((0, 1, 0),)), ((MOST, 0), (0, MOST)), (0, 1), (0,)), MOST)
        self.assertEqual(upper((2, ((0, 1, 0),)), ((MOST, 0), (0, MOST)), (0, 1), ()), MOST)

    def test_all_steps_and_sets(self):
        random = Random(92)
        for rule in RULES:
            for people in (0, 4, MOST):
                sums = drawn_sums(random, rule, people)
                for step in steps_of(rule):
                    for chosen in all_sets_of(rule[0]):
                        bound, by_words = (lower, lower_by_words) if step[0] in chosen else (upper, upper_by_words)
                        self.assertEqual(bound(rule, sums, step, chosen), by_words(rule, sums, step, chosen))


class MostAndLeast(unittest.TestCase):
    def check(self, rule, sums, counts=None):
        """Looks at all steps; returns whether there is a table. counts: those of each step in all tables."""
        is_table = barriers_by_words(rule, sums) == []
        sure, idle = sure_steps(rule, sums), idle_steps(rule, sums)
        if not is_table:
            self.assertEqual((sure, idle), (None, None))
        most, least = {}, {}
        for step in steps_of(rule):
            most[step], least[step] = most_of(rule, sums, step), least_of(rule, sums, step)
            told = (most_by_words(rule, sums, step), least_by_words(rule, sums, step)) if is_table else (None, None)
            self.assertEqual((most[step], least[step]), told, (rule, sums, step))
            if counts is not None:
                found = (max(counts[step], default=None), min(counts[step], default=None))
                self.assertEqual((most[step], least[step]), found, (rule, sums, step))
        if is_table:
            self.assertEqual(sure, tuple(step for step in steps_of(rule) if least[step] > 0))
            self.assertEqual(idle, tuple(step for step in steps_of(rule) if most[step] == 0))
        return is_table

    def test_of_rules_that_are_told(self):
        self.assertEqual((most_of(LATE, FIVE, (1, 1)), least_of(LATE, FIVE, (1, 1))), (3, 2))
        self.assertEqual((most_of(LATE, FIVE, (0, 0)), least_of(LATE, FIVE, (0, 0))), (1, 0))
        self.assertEqual((sure_steps(LATE, FIVE), idle_steps(LATE, FIVE)), (((0, 1), (1, 1)), ()))
        self.assertEqual((sure_steps(LATE, ((1, 1), (2, 0))), idle_steps(LATE, ((1, 1), (2, 0)))), (
            ((0, 0), (1, 0)), ((0, 1), (1, 1))))
        self.assertEqual((most_of(LATE, ((MOST, 0), (1, MOST - 1)), (0, 1))), MOST - 1)
        self.assertEqual((least_of(LATE, ((MOST, 0), (1, MOST - 1)), (0, 1))), MOST - 1)
        self.assertEqual((least_of(LATE, ((MOST - 1, 1), (1, MOST - 1)), (0, 1))), MOST - 2)
        self.assertEqual(most_of(STEEP, ((1, 2), (2, 1)), (1, 0)), 1)
        self.assertEqual(sure_steps(STEEP, ((1, 2), (2, 1))), steps_of(STEEP))

    def test_no_table(self):
        for rule, sums in [
            (STEEP, ((2, 1), (1, 2))), (STEEP, ((MOST, 0), (MOST - 1, 1))), (SIX, ((4, 0, 0), (1, 2, 1))),
        ]:
            self.assertFalse(self.check(rule, sums))
            for step in steps_of(rule):
                self.assertEqual((most_of(rule, sums, step), least_of(rule, sums, step)), (None, None))
        self.assertEqual((sure_steps(EMPTY, ((0, 0, 1), (1, 0, 0))), idle_steps(EMPTY, ((0, 0, 1), (1, 0, 0)))),
                         (None, None))

    def test_nobody(self):
        for rule in RULES:
            zeros = (0,) * rule[0]
            self.assertTrue(self.check(rule, (zeros, zeros)))
            self.assertEqual((sure_steps(rule, (zeros, zeros)), idle_steps(rule, (zeros, zeros))), ((), steps_of(rule)))

    def test_all_tables_of_few_people(self):
        random, seen = Random(93), {True: 0, False: 0}
        for rule in RULES:
            for people in (1, 2, 3, 4, 5):
                sums = drawn_sums(random, rule, people)
                tables = tables_with(rule, sums)
                counts = {(i, j): [table[i][j] for table in tables] for i, j in steps_of(rule)}
                seen[self.check(rule, sums, counts)] += 1
        self.assertGreater(min(seen.values()), 100)

    def test_many_people(self):
        random, seen = Random(94), {True: 0, False: 0}
        for rule in RULES:
            for people in (30, 10 ** 12, MOST):
                seen[self.check(rule, drawn_sums(random, rule, people))] += 1
        self.assertGreater(min(seen.values()), 50)

    def test_each_table_keeps_between_them(self):
        random = Random(95)
        for rule in RULES:
            table = random_table(random, rule, MOST)
            sums = sums_of(table)
            sure, idle = sure_steps(rule, sums), idle_steps(rule, sums)
            for i, j in steps_of(rule):
                self.assertLessEqual(least_of(rule, sums, (i, j)), table[i][j])
                self.assertLessEqual(table[i][j], most_of(rule, sums, (i, j)))
                self.assertFalse((i, j) in sure and table[i][j] == 0)
                self.assertFalse((i, j) in idle and table[i][j] > 0)


class Arguments(unittest.TestCase):
    def test_by_name_in_any_order(self):
        self.assertEqual(most_of(step=(1, 1), sums=FIVE, rule=LATE), 3)
        self.assertEqual(least_of(step=(1, 1), sums=FIVE, rule=LATE), 2)
        self.assertEqual(upper(shifts=(0,), step=(1, 1), sums=FIVE, rule=LATE), 3)
        self.assertEqual(lower(shifts=(1,), step=(1, 1), sums=FIVE, rule=LATE), 2)
        self.assertEqual(sure_steps(sums=FIVE, rule=LATE), ((0, 1), (1, 1)))
        self.assertEqual(idle_steps(sums=FIVE, rule=LATE), ())

    def test_they_stay(self):
        sums, step = ((2, 1, 1), (1, 2, 1)), (0, 1)
        before = deepcopy((SIX, sums, step))

        def told():
            bounds = (upper(SIX, sums, step, (1,)), lower(SIX, sums, step, (0,)))
            most_and_least = (most_of(SIX, sums, step), least_of(SIX, sums, step))
            return bounds + most_and_least + (sure_steps(SIX, sums), idle_steps(SIX, sums))

        self.assertEqual(told(), told())
        self.assertEqual((SIX, sums, step), before)


if __name__ == "__main__":
    unittest.main()
