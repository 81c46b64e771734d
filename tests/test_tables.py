"""Point 5 and Stage 2: sums, tables, rings and turns."""

import unittest
from copy import deepcopy
from itertools import product
from random import Random

from swaprings.errors import CannotTurn, InvalidSums, InvalidTable
from swaprings.tables import is_ring, price_of_table, require_sums, require_table, sums_of, turned
from tests.samples import (
    EMPTY, FULL, LATE, SIX, STEEP, all_unpriced, odd_values, prices_by_pair, random_rules, rings_by_words,
)

MOST = 10 ** 30
FREE = (3, tuple((i, j, i - j) for i in range(3) for j in range(3)))


class RequireSums(unittest.TestCase):
    def test_sums_are_returned_themselves(self):
        for rule, sums in [
            (LATE, ((0, 0), (0, 0))), (LATE, ((3, 2), (2, 3))), (LATE, ((MOST, 0), (0, MOST))),
            (LATE, ((MOST - 1, 1), (5, MOST - 5))), (EMPTY, ((1, 0, 0), (0, 1, 0))), (SIX, ((1, 2, 3), (2, 2, 2))),
            (FULL, ((0, 0, 0, 0, MOST), (0, 0, 0, MOST, 0))), (STEEP, ((5, 0), (0, 5))),
        ]:
            self.assertIs(require_sums(rule, sums), sums)

    def test_wrong_sums(self):
        for value in [
            None, True, 0, "ab", (), ((0, 0),), ((0, 0), (0, 0), (0, 0)), [(0, 0), (0, 0)], ([0, 0], (0, 0)),
            ((0, 0), [0, 0]), ((0,), (0,)), ((0, 0, 0), (0, 0, 0)), ((0, 0), (0, 0, 0)), ((0, 0), (0,)),
            ((1, 0), (0, 0)), ((1, 2), (2, 2)), ((-1, 1), (0, 0)), ((0, 0), (1, -1)), ((True, 0), (1, 0)),
            ((1, 0), (0, True)), ((False, 0), (0, 0)), (("1", 0), (1, 0)), ((None, 0), (0, 0)), ("00", "00"),
            ((MOST + 1, 0), (0, MOST + 1)), ((MOST, 1), (1, MOST)), ((MOST, MOST), (MOST, MOST)),
            ((10 ** 79, 0), (10 ** 79, 0)), (((0,), 0), (0, 0)), {0: (0, 0), 1: (0, 0)}, ({}, {}),
        ]:
            with self.assertRaises(InvalidSums, msg=repr(value)):
                require_sums(LATE, value)

    def test_sums_of_another_number_of_shifts(self):
        for rule, sums in [(SIX, ((1, 1), (1, 1))), (FULL, ((1, 1, 1, 1), (1, 1, 1, 1))), (LATE, ((0,) * 5, (0,) * 5))]:
            with self.assertRaises(InvalidSums):
                require_sums(rule, sums)

    def test_any_value_gets_its_error_and_stays(self):
        for value in odd_values() + [((0, 0), value) for value in odd_values()]:
            before = deepcopy(value)
            try:
                self.assertIs(require_sums(LATE, value), value)
            except InvalidSums:
                pass
            self.assertEqual(value, before)


class RequireTable(unittest.TestCase):
    def test_tables_are_returned_themselves(self):
        for rule, table in [
            (LATE, ((2, 1), (0, 2))), (STEEP, ((2, 0), (1, 2))), (SIX, ((1, 0, 0), (0, 1, 0), (0, 0, 1))),
            (EMPTY, ((0, 0, 0),) * 3), (LATE, ((MOST, 0), (0, 0))), (LATE, ((MOST - 3, 1), (1, 1))),
            (FULL, ((0,) * 5,) * 4 + ((0, 0, 0, 0, MOST),)),
        ]:
            self.assertIs(require_table(rule, table), table)

    def test_wrong_parts(self):
        for value, part in [
            (None, None), (True, None), (3, None), ("ab", None), ((), None), (((0, 0),), None),
            (((0, 0), (0, 0), (0, 0)), None), ([(0, 0), (0, 0)], None), ({}, None),
            (([0, 0], (0, 0)), ("row", 0)), (((0, 0), [0, 0]), ("row", 1)), (((0,), (0, 0)), ("row", 0)),
            (((0, 0), (0, 0, 0)), ("row", 1)), ((None, (0, 0)), ("row", 0)), (((0, 0), 0), ("row", 1)),
            (("00", (0, 0)), ("row", 0)), (((True, 0), (0, 0)), ("row", 0)), (((0, 0), (0, False)), ("row", 1)),
            (((-1, 0), (0, 0)), ("row", 0)), (((0, 0), (0, -1)), ("row", 1)), (((0, "0"), (0, 0)), ("row", 0)),
            (((0, 0), (MOST + 1, 0)), ("row", 1)), (((10 ** 79, 0), (0, 0)), ("row", 0)),
            (((0, 1), (0, 0)), ("barred", 0, 1)), (((3, MOST), (2, 1)), ("barred", 0, 1)),
            (((MOST, 0), (0, 1)), ("people",)), (((MOST, 0), (MOST, MOST)), ("people",)),
        ]:
            with self.assertRaises(InvalidTable, msg=repr(value)) as caught:
                require_table(STEEP, value)
            self.assertEqual(caught.exception.part, part, repr(value))

    def test_the_fault_listed_first_is_told(self):
        for rule, value, part in [
            (STEEP, [None, None], None), (STEEP, ((True, 0), None), ("row", 0)),
            (STEEP, ((0, 1), (0, -1)), ("row", 1)), (STEEP, ((0, MOST), [0, 0]), ("row", 1)),
            (STEEP, ((MOST, MOST), (0, 0)), ("barred", 0, 1)), (STEEP, ((MOST + 1, 1), (0, 0)), ("row", 0)),
            (SIX, ((0, 0, 1), (1, 0, 0), (0, 1, 0)), ("barred", 0, 2)),
            (SIX, ((0, 0, 0), (1, 0, 0), (0, 1, 0)), ("barred", 1, 0)),
            (SIX, ((MOST, 0, 0), (0, 1, 0), (0, 1, 0)), ("barred", 2, 1)),
            (EMPTY, ((0, 0, 0), (0, 0, 1), (1, 0, 0)), ("barred", 1, 2)),
        ]:
            with self.assertRaises(InvalidTable, msg=repr(value)) as caught:
                require_table(rule, value)
            self.assertEqual(caught.exception.part, part, repr(value))

    def test_any_value_gets_its_error_and_stays(self):
        for value in odd_values() + [((0, 0), value) for value in odd_values()] + [(v, v) for v in odd_values()]:
            before = deepcopy(value)
            try:
                self.assertIs(require_table(LATE, value), value)
            except InvalidTable:
                pass
            self.assertEqual(value, before)


class Tables(unittest.TestCase):
    def test_sums_of(self):
        self.assertEqual(sums_of(((1, 2, 3), (4, 5, 6), (7, 8, 9))), ((6, 15, 24), (12, 15, 18)))
        self.assertEqual(sums_of(((0, 0), (0, 0))), ((0, 0), (0, 0)))
        self.assertEqual(sums_of(((MOST, 0), (0, 0))), ((MOST, 0), (MOST, 0)))
        self.assertEqual(sums_of(((0, 4), (0, 0))), ((4, 0), (0, 4)))

    def test_sums_of_random_tables_are_sums(self):
        random = Random(2)
        for shifts in (2, 3, 4, 5):
            table = tuple(tuple(random.randrange(9) for _ in range(shifts)) for _ in range(shifts))
            rows, columns = sums_of(table)
            self.assertEqual(rows, tuple(sum(table[i]) for i in range(shifts)))
            self.assertEqual(columns, tuple(sum(table[i][j] for i in range(shifts)) for j in range(shifts)))
            require_sums((shifts, ()), (rows, columns))

    def test_price_of_table(self):
        self.assertEqual(price_of_table(LATE, ((2, 1), (0, 2))), 11)
        self.assertEqual(price_of_table(FREE, ((1, 2, 3), (4, 5, 6), (7, 8, 9))), -2 - 6 + 4 - 6 + 14 + 8)
        self.assertEqual(price_of_table(EMPTY, ((0, 0, 0),) * 3), 0)
        self.assertEqual(price_of_table((2, ((0, 0, -99), (1, 1, 99))), ((MOST, 0), (0, 0))), -99 * MOST)
        self.assertEqual(price_of_table((2, ((0, 0, -99), (1, 1, 99))), ((0, 0), (0, MOST))), 99 * MOST)

    def test_arguments_by_name(self):
        sums, table, ring = ((3, 2), (2, 3)), ((2, 1), (0, 2)), ((0, 0), (1, 1))
        self.assertEqual(require_sums(value=sums, rule=LATE), sums)
        self.assertEqual(require_table(value=table, rule=LATE), table)
        self.assertEqual(sums_of(table=table), sums)
        self.assertEqual(price_of_table(table=table, rule=LATE), 11)
        self.assertIs(is_ring(value=ring, rule=LATE), True)
        self.assertEqual(turned(times=1, ring=ring, table=table, rule=LATE), ((1, 2), (1, 1)))
        self.assertEqual((table, ring), (((2, 1), (0, 2)), ((0, 0), (1, 1))))


class Rings(unittest.TestCase):
    def test_rings_of_two_to_five_people(self):
        for many in (2, 3, 4, 5):
            self.assertIs(is_ring(FULL, tuple((t, t) for t in range(many))), True)
        self.assertIs(is_ring(SIX, ((0, 0), (1, 1), (2, 2))), True)
        self.assertIs(is_ring(SIX, ((0, 1), (2, 0), (1, 2))), True)

    def test_no_rings(self):
        for rule, value in [
            (SIX, ((1, 1), (2, 2), (0, 0))), (SIX, ((2, 0), (1, 2), (0, 1))), (LATE, ((1, 1), (0, 0))),
            (LATE, ()), (LATE, ((0, 0),)), (LATE, ((0, 0), (0, 1))), (LATE, ((0, 0), (1, 0))), (LATE, ((0, 0), (0, 0))),
            (STEEP, ((0, 0), (1, 1))), (STEEP, ((0, 1), (1, 0))), (EMPTY, ((0, 0), (1, 1))),
            (SIX, ((0, 0), (1, 1))), (SIX, ((0, 0), (2, 2), (1, 1))), (LATE, ((0, 0), (1, 1), (0, 0))),
            (LATE, ((0, 0), (1, 2))), (LATE, ((0, 0), (-1, 1))), (FULL, tuple((t, t) for t in range(6))),
            (LATE, [(0, 0), (1, 1)]), (LATE, ([0, 0], [1, 1])), (LATE, ((0, 0), [1, 1])), (LATE, ((0, 0), (1, 1, 0))),
            (LATE, ((0, 0), (1, True))), (LATE, ((False, 0), (1, 1))), (LATE, ((0, 0), (True, 1))),
            (LATE, ((0, 0), None)), (LATE, "ring"), (LATE, None), (LATE, {0: (0, 0)}), (LATE, ((0, 0), (1, "1"))),
        ]:
            self.assertIs(is_ring(rule, value), False, repr(value))

    def test_all_tuples_of_pairs(self):
        for rule in list(all_unpriced(2)) + [SIX, FREE] + random_rules(3, 12, (3,)):
            rings = set(rings_by_words(rule))
            pairs = list(product(range(rule[0]), repeat=2))
            for many in (1, 2, 3):
                for value in product(pairs, repeat=many):
                    self.assertIs(is_ring(rule, value), value in rings, (rule, value))

    def test_rings_of_larger_rules(self):
        for rule in [FULL] + random_rules(4, 6, (4, 5)):
            for ring in rings_by_words(rule):
                self.assertTrue(is_ring(rule, ring))
                self.assertFalse(is_ring(rule, ring[1:] + ring[:1]))
                for step in ring:
                    less = (rule[0], tuple(told for told in rule[1] if told[:2] != step))
                    self.assertFalse(is_ring(less, ring))

    def test_any_value_is_answered_and_stays(self):
        for value in odd_values() + [((0, 0), value) for value in odd_values()]:
            before = deepcopy(value)
            self.assertIs(is_ring(LATE, value), value == ((0, 0), (1, 1)) and isinstance(value[0][0], int)
                          and not isinstance(value[0][0], bool) and isinstance(value, tuple))
            self.assertEqual(value, before)


class Turns(unittest.TestCase):
    def refuses(self, index, rule, table, ring, times):
        with self.assertRaises(CannotTurn, msg=repr((ring, times))) as caught:
            turned(rule, table, ring, times)
        self.assertEqual(caught.exception.index, index, repr((ring, times)))

    def test_turns(self):
        self.assertEqual(turned(LATE, ((1, 0), (0, 1)), ((0, 0), (1, 1)), 1), ((0, 1), (1, 0)))
        self.assertEqual(turned(LATE, ((0, 1), (1, 0)), ((0, 1), (1, 0)), 1), ((1, 0), (0, 1)))
        one = ((1, 0, 0), (0, 1, 0), (0, 0, 1))
        self.assertEqual(turned(SIX, one, ((0, 0), (1, 1), (2, 2)), 1), ((0, 1, 0), (0, 0, 1), (1, 0, 0)))
        half = 5 * 10 ** 29
        self.assertEqual(turned(LATE, ((half, 0), (0, half)), ((0, 0), (1, 1)), half), ((0, half), (half, 0)))

    def test_a_turn_keeps_the_sums_and_moves_the_people(self):
        random = Random(5)
        for rule in [LATE, SIX, FULL] + random_rules(6, 12, (2, 3, 4, 5)):
            allowed = prices_by_pair(rule)
            table = tuple(
                tuple(random.randrange(3, 9) if (i, j) in allowed else 0 for j in range(rule[0]))
                for i in range(rule[0])
            )
            for ring in rings_by_words(rule)[:200]:
                times = random.randrange(1, 4)
                after = turned(rule, table, ring, times)
                require_table(rule, after)
                self.assertEqual(sums_of(after), sums_of(table))
                for i, j in product(range(rule[0]), repeat=2):
                    firsts = [first for first, _ in ring]
                    seconds = [second for _, second in ring]
                    came = i in firsts and seconds[(firsts.index(i) + 1) % len(ring)] == j
                    self.assertEqual(after[i][j] - table[i][j], times * (came - ((i, j) in ring)))

    def test_no_ring_and_times_out_of_bounds(self):
        table = ((MOST, 0), (0, 0))
        for times in (0, -1, MOST + 1, 10 ** 79, -(10 ** 79)):
            self.refuses(-1, LATE, table, ((0, 0), (1, 1)), times)
        for value in odd_values() + [((1, 1), (0, 0)), ((0, 0), (0, 1)), ((0, 0), (1, True))]:
            if not is_ring(LATE, value):
                before = deepcopy(value)
                self.refuses(-1, LATE, table, value, 1)
                self.assertEqual(value, before)
        self.refuses(-1, STEEP, ((1, 0), (0, 1)), ((0, 0), (1, 1)), 1)
        self.refuses(-1, LATE, table, None, 0)

    def test_the_first_step_with_too_few_people(self):
        ring = ((0, 0), (1, 1))
        self.refuses(0, LATE, ((0, 5), (5, 0)), ring, 1)
        self.refuses(0, LATE, ((2, 0), (0, 2)), ring, 3)
        self.refuses(1, LATE, ((3, 0), (0, 2)), ring, 3)
        self.refuses(0, LATE, ((2, 0), (0, 3)), ring, 3)
        self.refuses(0, LATE, ((5, 0), (0, 5)), ring, MOST)
        self.refuses(2, SIX, ((4, 0, 0), (0, 4, 0), (0, 0, 3)), ((0, 0), (1, 1), (2, 2)), 4)
        self.assertEqual(turned(LATE, ((3, 0), (0, 3)), ring, 3), ((0, 3), (3, 0)))

    def test_a_turn_of_most_people(self):
        # A table beyond the bound is somewhat beyond the limit, and no error is named for it.
        self.assertEqual(turned(LATE, ((MOST, 0), (0, MOST)), ((0, 0), (1, 1)), MOST), ((0, MOST), (MOST, 0)))
        self.refuses(1, LATE, ((MOST, 0), (0, MOST - 1)), ((0, 0), (1, 1)), MOST)


if __name__ == "__main__":
    unittest.main()
