"""Point 11 and Stage 8: next shifts, barriers, and whether there is a table."""

import unittest
from copy import deepcopy
from random import Random

from swaprings.barriers import barrier_for, is_barrier, next_shifts, table_for
from swaprings.tables import require_sums, require_table, sums_of
from tests.samples import (
    BOTH, EMPTY, FULL, LATE, SIX, STEEP, all_sets_of, barriers_by_words, drawn_sums, next_shifts_by_words, odd_values,
    random_rules, round_rule, tables_with,
)

MOST = 10 ** 30
RANDOM_RULES = random_rules(71, 150, (2, 3, 4, 5))
RULES = [LATE, STEEP, SIX, EMPTY, BOTH, FULL, round_rule(4), round_rule(5), (2, ()), (5, ())] + RANDOM_RULES
# Between them stands where a barrier has just one person too many, or just none.
TIGHT = ((2, 1, 1), (1, 2, 1))


class NextShifts(unittest.TestCase):
    def test_of_six(self):
        told = {(): (), (0,): (0, 1), (1,): (1, 2), (2,): (0, 2), (0, 1): (0, 1, 2), (0, 1, 2): (0, 1, 2)}
        for shifts, ahead in told.items():
            self.assertEqual(next_shifts(SIX, shifts), ahead)

    def test_all_sets(self):
        for rule in RULES:
            for shifts in all_sets_of(rule[0]):
                found = next_shifts(rule, shifts)
                self.assertIsInstance(found, tuple)
                self.assertEqual(found, next_shifts_by_words(rule, shifts))

    def test_without_steps(self):
        self.assertEqual(next_shifts(EMPTY, (0, 1, 2)), ())
        self.assertEqual(next_shifts((3, ((1, 1, 5),)), (0, 2)), ())


class IsBarrier(unittest.TestCase):
    def test_one_person_too_many(self):
        self.assertIs(is_barrier(STEEP, ((2, 1), (1, 2)), (0,)), True)
        self.assertIs(is_barrier(STEEP, ((2, 1), (2, 1)), (0,)), False)
        self.assertIs(is_barrier(STEEP, ((MOST, 0), (MOST - 1, 1)), (0,)), True)
        self.assertIs(is_barrier(STEEP, ((MOST - 1, 1), (MOST - 1, 1)), (0,)), False)
        self.assertIs(is_barrier(SIX, TIGHT, (0,)), False)
        self.assertIs(is_barrier(SIX, ((4, 0, 0), (1, 2, 1)), (0,)), True)
        self.assertIs(is_barrier(EMPTY, ((0, 1, 0), (0, 0, 1)), (1,)), True)
        self.assertIs(is_barrier(EMPTY, ((0, 1, 0), (0, 0, 1)), (0, 1, 2)), True)
        self.assertIs(is_barrier(EMPTY, ((0, 1, 0), (0, 0, 1)), (0, 2)), False)

    def test_the_empty_set_is_none(self):
        for rule in (STEEP, SIX, EMPTY):
            zeros = (0,) * rule[0]
            self.assertIs(is_barrier(rule, (zeros, zeros), ()), False)
            self.assertIs(is_barrier(rule, ((1,) + zeros[1:], zeros[1:] + (1,)), ()), False)

    def test_values_that_are_no_sets(self):
        sums = ((2, 3, 0), (0, 0, 5))
        rule = (3, ((0, 0, 0), (1, 0, 0), (2, 2, 0)))
        self.assertTrue(all(is_barrier(rule, sums, chosen) for chosen in [(0,), (1,), (0, 1)]))
        self.assertIs(is_barrier(rule, sums, (0, 1, 2)), False)
        for value in [
            None, True, 0, 1, "", "0", "01", [0], [0, 1], {0: True}, {}, (1, 0), (0, 0), (0, 1, 1), (0, 0, 1), (0, 3),
            (3,), (-1,), (-1, 0), (0, 10 ** 79), (False,), (True,), (0, True), (False, 1), ("0",), (None,), (0, None),
            ((0,),), ((0, 1),), ([0],), (0, [1]), (0, {}), (0, 1, 2, 3), (0, 1, -1),
        ]:
            self.assertIs(is_barrier(rule, sums, value), False, repr(value))

    def test_any_value_is_answered_and_stays(self):
        sums = ((0, 0, 0, 0, 1), (0, 0, 1, 0, 0))
        for value in odd_values() + [(4, value) for value in odd_values()] + [(value, 4) for value in odd_values()]:
            before = deepcopy(value)
            held = isinstance(value, tuple) and [repr(shift) for shift in value[:3]] in (
                ["0", "4"], ["1", "4"], ["2", "4"],
            )
            self.assertIs(is_barrier((5, ()), sums, value), held, repr(value)[:80])
            self.assertEqual(value, before)

    def test_all_sets(self):
        random = Random(72)
        for rule in RULES:
            for people in (0, 1, 3, 9, MOST):
                sums = drawn_sums(random, rule, people)
                found = [chosen for chosen in all_sets_of(rule[0]) if is_barrier(rule, sums, chosen)]
                self.assertEqual(found, barriers_by_words(rule, sums))


class TableOrBarrier(unittest.TestCase):
    def check(self, rule, sums):
        require_sums(rule, sums)
        table, barrier = table_for(rule, sums), barrier_for(rule, sums)
        barriers = barriers_by_words(rule, sums)
        self.assertIs(table is None, barriers != [], (rule, sums))
        if table is None:
            self.assertIsInstance(barrier, tuple)
            self.assertIn(barrier, barriers)
            self.assertIs(is_barrier(rule, sums, barrier), True)
        else:
            self.assertIsNone(barrier)
            self.assertIs(require_table(rule, table), table)
            self.assertEqual(sums_of(table), sums)
        return table is not None

    def test_rules_that_are_told(self):
        self.assertTrue(self.check(STEEP, ((1, 2), (2, 1))))
        self.assertFalse(self.check(STEEP, ((2, 1), (1, 2))))
        self.assertTrue(self.check(SIX, TIGHT))
        self.assertFalse(self.check(SIX, ((4, 0, 0), (1, 2, 1))))
        self.assertTrue(self.check(LATE, ((MOST, 0), (0, MOST))))
        self.assertFalse(self.check(STEEP, ((MOST, 0), (MOST - 1, 1))))
        self.assertTrue(self.check(STEEP, ((MOST - 1, 1), (MOST - 1, 1))))

    def test_nobody_and_no_steps(self):
        for rule in RULES:
            zeros = (0,) * rule[0]
            self.assertTrue(self.check(rule, (zeros, zeros)))
            self.assertEqual(table_for(rule, (zeros, zeros)), (zeros,) * rule[0])
        self.assertFalse(self.check(EMPTY, ((0, 0, 1), (1, 0, 0))))
        self.assertFalse(self.check((5, ()), ((MOST, 0, 0, 0, 0), (MOST, 0, 0, 0, 0))))

    def test_drawn_rules_and_sums(self):
        random, seen = Random(73), {True: 0, False: 0}
        for rule in RULES:
            for people in (1, 2, 3, 5, 8, 20, 10 ** 9, MOST - 1, MOST):
                for _ in range(2):
                    seen[self.check(rule, drawn_sums(random, rule, people))] += 1
        self.assertGreater(min(seen.values()), 500)

    def test_all_tables_of_few_people(self):
        random = Random(74)
        for rule in RULES:
            for people in (1, 2, 3, 4):
                sums = drawn_sums(random, rule, people)
                tables = tables_with(rule, sums)
                self.assertIs(self.check(rule, sums), tables != [])
                if tables:
                    self.assertIn(table_for(rule, sums), tables)

    def test_where_people_must_make_room(self):
        # Each of these has one table alone, and whoever is placed wrongly at first must go elsewhere.
        stairs = (5, tuple((i, j, 0) for i in range(5) for j in range(i + 1)))
        for sums in (((1,) * 5, (1,) * 5), ((7,) * 5, (7,) * 5), ((1, 2, 3, 4, MOST - 10),) * 2):
            self.assertTrue(self.check(stairs, sums))
            self.assertEqual(table_for(stairs, sums)[4][:4], (0, 0, 0, 0))
        stairs_down = (5, tuple((i, j, 0) for i in range(5) for j in range(5 - i)))
        self.assertTrue(self.check(stairs_down, ((3, 1, 4, 1, 5), (5, 1, 4, 1, 3))))
        self.assertFalse(self.check(stairs_down, ((3, 1, 4, 1, 5), (4, 2, 4, 1, 3))))


class Arguments(unittest.TestCase):
    def test_by_name_in_any_order(self):
        sums = ((2, 1), (1, 2))
        self.assertEqual(next_shifts(shifts=(1,), rule=STEEP), (0, 1))
        self.assertIs(is_barrier(value=(0,), sums=sums, rule=STEEP), True)
        self.assertEqual(barrier_for(sums=sums, rule=STEEP), (0,))
        self.assertEqual(table_for(sums=((1, 2), (2, 1)), rule=STEEP), ((1, 0), (1, 1)))

    def test_they_stay(self):
        for sums in (TIGHT, ((4, 0, 0), (1, 2, 1))):
            before = deepcopy((SIX, sums))
            told = (next_shifts(SIX, (0,)), is_barrier(SIX, sums, (0,)), table_for(SIX, sums), barrier_for(SIX, sums))
            self.assertEqual((SIX, sums), before)
            self.assertEqual(
                (next_shifts(SIX, (0,)), is_barrier(SIX, sums, (0,)), table_for(SIX, sums), barrier_for(SIX, sums)),
                told,
            )


if __name__ == "__main__":
    unittest.main()
