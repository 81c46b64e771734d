"""Point 18 and Stage 14: changes, their signs, their turns, and what they make of a table."""

import types
import unittest
from copy import deepcopy
from random import Random

from swaprings.changes import Change
from swaprings.errors import CannotChange, InvalidChange, SizesDiffer, UnknownPlace
from swaprings.tables import is_ring, require_table, sums_of
from swaprings.ways import walked
from tests.samples import (
    FULL, LATE, SIX, STEEP, odd_values, prices_by_pair, random_rules, random_table, rings_by_words,
    steps_behind_by_words, tables_with, turned_by_words,
)

MOST = 10 ** 30
SWAP = ((-2, 2), (2, -2))
LONG = ((-1, 1, 0), (0, -1, 1), (1, 0, -1))


def random_cells(random, shifts, most):
    """Cells with sums 0, made of the difference of two tables of the same sums."""
    rows = [[0] * shifts for _ in range(shifts)]
    for _ in range(random.randrange(1, 7)):
        i, k = random.sample(range(shifts), 2)
        j, l = random.sample(range(shifts), 2)
        times = random.choice((0, 1, 2, random.randrange(most + 1)))
        for row, column, sign in [(i, j, -1), (k, l, -1), (i, l, 1), (k, j, 1)]:
            rows[row][column] += sign * times
    if max(abs(number) for row in rows for number in row) > MOST:
        return random_cells(random, shifts, most)
    return tuple(map(tuple, rows))


def all_cells(seed, many):
    random = Random(seed)
    return [random_cells(random, random.choice((2, 3, 4, 5)), random.choice((3, 10 ** 6, MOST))) for _ in range(many)]


def combined(cells, others, one, other):
    return tuple(tuple(one * a + other * b for a, b in zip(row, more)) for row, more in zip(cells, others))


def is_small(cells):
    return all(-MOST <= number <= MOST for row in cells for number in row)


class Creating(unittest.TestCase):
    def refused(self, cells):
        with self.assertRaises(InvalidChange) as caught:
            Change(cells)
        return caught.exception.part

    def test_right_ones_keep_their_cells(self):
        zeros = [((0,) * shifts,) * shifts for shifts in (2, 3, 4, 5)]
        for cells in zeros + [SWAP, LONG, ((-MOST, MOST), (MOST, -MOST))] + all_cells(180, 100):
            self.assertEqual(Change(cells).cells, cells)
            self.assertIsInstance(Change(cells).cells, tuple)

    def test_no_tuple_of_two_to_five(self):
        for value in (None, 5, "ab", (), (((0,),)), ((0,) * 6,) * 6, [[0, 0], [0, 0]], [(0, 0), (0, 0)], {0: 0}):
            self.assertIsNone(self.refused(value), value)

    def test_each_row(self):
        wrong = [None, 5, (), (0,), (0, 0, 0), [0, 0], "00", (True, False), (0, False), (0, None), (MOST + 1, 0),
                 (0, -MOST - 1), ((0,), 0)]
        for row in wrong:
            self.assertEqual(self.refused((row, (0, 0))), ("row", 0), row)
            self.assertEqual(self.refused(((1, 1), row)), ("row", 1), row)
            self.assertEqual(self.refused((row, None)), ("row", 0), row)

    def test_sums_of_rows_then_of_columns(self):
        self.assertEqual(self.refused(((1, 0), (0, 0))), ("sum", 0))
        self.assertEqual(self.refused(((1, -1), (0, 1))), ("sum", 1))
        self.assertEqual(self.refused(((0, 0), (-1, 0))), ("sum", 1))
        self.assertEqual(self.refused(((1, -1), (0, 0))), ("column", 0))
        self.assertEqual(self.refused(((0, 1, -1), (0, 0, 0), (0, 0, 0))), ("column", 1))
        self.assertEqual(self.refused(((1, -1, 0), (-1, 0, 1), (0, 0, 0))), ("column", 1))
        self.assertEqual(self.refused(((MOST, MOST), (-MOST, -MOST))), ("sum", 0))

    def test_any_value(self):
        for value in odd_values():
            told = self.refused(value)
            self.assertIn(told, (None, ("row", 0), ("row", 1), ("sum", 1)))
            if value != (0, 0):
                self.assertEqual(self.refused(((0, 0), value)), ("row", 1) if value != (0, 1) else ("sum", 1))
            if not isinstance(value, int) or isinstance(value, bool) or abs(value) > MOST:
                self.assertEqual(self.refused(((0, 0), (value, 0))), ("row", 1))

    def test_between(self):
        self.assertEqual(Change.between(((2, 1), (0, 2)), ((0, 3), (2, 0))).cells, SWAP)
        random = Random(181)
        for rule in random_rules(182, 80, (2, 3, 4)):
            table = random_table(random, rule, 4)
            for other in tables_with(rule, sums_of(table)):
                change = Change.between(table, other)
                self.assertIsInstance(change, Change)
                self.assertEqual(change.cells, combined(other, table, 1, -1))
        self.assertEqual(Change.between(((MOST, 0), (0, 0)), ((MOST, 0), (0, 0))).cells, ((0, 0), (0, 0)))

    def test_of_a_ring(self):
        self.assertEqual(Change.of(((0, 0), (1, 1)), 2, times=2).cells, SWAP)
        self.assertEqual(Change.of(((0, 0), (1, 1), (2, 2)), 3).cells, LONG)
        for rule in random_rules(183, 60, (2, 3, 4)) + [SIX, LATE]:
            for ring in rings_by_words(rule)[:60]:
                for times in (1, 7, MOST):
                    table = [[0] * rule[0] for _ in range(rule[0])]
                    for i, j in ring:
                        table[i][j] = times
                    after = turned_by_words(table, ring, times)
                    change = Change.of(ring, rule[0], times=times)
                    self.assertEqual(change.cells, combined(after, table, 1, -1))
                    self.assertEqual(change.people(), times * len(ring))
        with self.assertRaises(TypeError):
            Change.of(((0, 0), (1, 1)), 2, 2)


class Reading(unittest.TestCase):
    def test_places(self):
        for cells in all_cells(184, 40):
            change, shifts = Change(cells), range(len(cells))
            self.assertEqual(tuple(tuple(change[i, j] for j in shifts) for i in shifts), cells)

    def test_places_that_there_are_not(self):
        change = Change(LONG)
        for value in [3, -1, True, False, None, "0", (0,), [0], {}, 10 ** 79, -3] + odd_values():
            if isinstance(value, int) and not isinstance(value, bool) and 0 <= value < 3:
                continue
            for at in [(value, 0), (0, value), (value, 7)]:
                with self.assertRaises(UnknownPlace) as caught:
                    change[at]
                self.assertEqual(caught.exception.value, value)
        with self.assertRaises(UnknownPlace) as caught:
            change[1, 3]
        self.assertEqual(caught.exception.value, 3)

    def test_it_is_not_iterated_over(self):
        self.assertRaises(TypeError, lambda: list(Change(SWAP)))

    def test_people(self):
        self.assertEqual([Change(cells).people() for cells in (SWAP, LONG, ((0, 0), (0, 0)))], [4, 3, 0])
        for cells in all_cells(185, 60):
            self.assertEqual(Change(cells).people(), sum(number for row in cells for number in row if number > 0))

    def test_truth(self):
        self.assertIs(bool(Change(SWAP)), True)
        self.assertIs(bool(Change(((0, 0), (0, 0)))), False)
        for cells in all_cells(186, 40):
            self.assertEqual(bool(Change(cells)), any(map(any, cells)))
            self.assertIs(bool(Change(cells) - Change(cells)), False)

    def test_equal(self):
        one, same, other = Change(SWAP), Change(((-2, 2), (2, -2))), Change(((2, -2), (-2, 2)))
        self.assertTrue(one == same)
        self.assertFalse(one != same)
        self.assertFalse(one == other)
        self.assertTrue(one != other)
        for value in odd_values() + [SWAP, list(SWAP), Change(LONG)]:
            self.assertIs(one == value, False)
            self.assertIs(value == one, False)
            self.assertIs(one != value, True)


class Signs(unittest.TestCase):
    def test_sums_and_differences(self):
        every = all_cells(187, 160) + [combined(SWAP, SWAP, MOST // 2, 0)] * 2 + [combined(SWAP, SWAP, MOST // -2, 0)]
        seen = {"added": 0, "differ": 0, "beyond": 0}
        for cells, others in zip(every, every[1:]):
            one, other = Change(cells), Change(others)
            for sign, act in [(1, lambda: one + other), (-1, lambda: one - other)]:
                if len(cells) != len(others):
                    with self.assertRaises(SizesDiffer):
                        act()
                    seen["differ"] += 1
                elif is_small(combined(cells, others, 1, sign)):
                    self.assertEqual(act().cells, combined(cells, others, 1, sign))
                    seen["added"] += 1
                else:
                    self.assertRaises(InvalidChange, act)
                    seen["beyond"] += 1
            self.assertEqual((one.cells, other.cells), (cells, others))
        self.assertGreater(min(seen.values()), 0, seen)

    def test_negative_and_times(self):
        for cells in all_cells(188, 80):
            change = Change(cells)
            self.assertEqual((-change).cells, combined(cells, cells, -1, 0))
            for number in (0, 1, -1, 2, -3, 10 ** 6):
                right = combined(cells, cells, number, 0)
                if is_small(right):
                    self.assertEqual((number * change).cells, right)
                    self.assertEqual((change * number).cells, right)
                else:
                    self.assertRaises(InvalidChange, lambda: number * change)
                    self.assertRaises(InvalidChange, lambda: change * number)
            self.assertEqual(change.cells, cells)
            self.assertIsNot(change * 1, change)

    def test_bounds(self):
        one = Change(((0, 0, 0), (0, 1, -1), (0, -1, 1)))
        great = MOST * one
        self.assertEqual(great.cells[1], (0, MOST, -MOST))
        self.assertEqual((-great).cells[2], (0, MOST, -MOST))
        self.assertEqual((great - great).cells, ((0,) * 3,) * 3)
        for act in (lambda: great + one, lambda: one + great, lambda: -great - one, lambda: (MOST + 1) * one,
                    lambda: one * (MOST + 1), lambda: one * (-MOST - 1), lambda: great * -2):
            with self.assertRaises(InvalidChange) as caught:
                act()
            self.assertEqual(caught.exception.part, ("row", 1))
        self.assertEqual(10 ** 79 * Change(((0, 0), (0, 0))), Change(((0, 0), (0, 0))))

    def test_sizes_are_told_ahead(self):
        with self.assertRaises(SizesDiffer):
            MOST * Change(SWAP[:0] + ((1, -1), (-1, 1))) + Change(LONG)
        with self.assertRaises(SizesDiffer):
            Change(LONG) - Change(SWAP)

    def test_other_kinds_of_values(self):
        change = Change(SWAP)
        for value in (None, True, False, "ab", (), SWAP, [1], {}, b"a"):
            for act in (lambda: change * value, lambda: value * change):
                self.assertRaises(TypeError, act)
        for value in (None, True, 0, 1, "ab", (), SWAP, [1], {}):
            for act in (lambda: change + value, lambda: value + change, lambda: change - value, lambda: value - change):
                self.assertRaises(TypeError, act)
        self.assertRaises(TypeError, lambda: change * change)

    def test_in_place_signs_make_new_ones(self):
        change = kept = Change(SWAP)
        change += Change(SWAP)
        change -= -Change(SWAP)
        change *= 2
        self.assertEqual((change.cells, kept.cells), (combined(SWAP, SWAP, 3, 3), SWAP))


class Turns(unittest.TestCase):
    def check(self, cells):
        change = Change(cells)
        turns = list(change.turns())
        self.assertLessEqual(len(turns), 25)
        full = (len(cells), FULL[1]) if len(cells) == 5 else (
            len(cells), tuple(step for step in FULL[1] if max(step[:2]) < len(cells)))
        total = Change(((0,) * len(cells),) * len(cells))
        for ring, times in turns:
            self.assertTrue(is_ring(full, ring), ring)
            self.assertTrue(isinstance(times, int) and 1 <= times <= MOST)
            self.assertTrue(all(cells[i][j] < 0 for i, j in ring))
            self.assertTrue(all(cells[i][j] > 0 for i, j in steps_behind_by_words(ring)))
            total = total + Change.of(ring, len(cells), times=times)
        self.assertEqual(total, change)
        return turns

    def test_it_is_a_generator(self):
        self.assertIsInstance(Change(SWAP).turns(), types.GeneratorType)

    def test_small_ones(self):
        self.assertEqual(self.check(SWAP), [(((0, 0), (1, 1)), 2)])
        self.assertEqual(self.check(LONG), [(((0, 0), (1, 1), (2, 2)), 1)])
        self.assertEqual(self.check(((0, 0), (0, 0))), [])

    def test_drawn_ones(self):
        for cells in all_cells(189, 300):
            self.check(cells)

    def test_many_unlike_numbers(self):
        random = Random(190)
        for _ in range(100):
            rows = [[random.randrange(-10 ** 27, 10 ** 27) for _ in range(4)] for _ in range(4)]
            rows = [row + [-sum(row)] for row in rows]
            rows.append([-sum(column) for column in zip(*rows)])
            self.check(tuple(map(tuple, rows)))

    def test_they_are_a_way_between_tables(self):
        random = Random(191)
        for rule in random_rules(192, 60, (2, 3, 4, 5)):
            table = random_table(random, rule, 4)
            for other in tables_with(rule, sums_of(table))[:20]:
                self.assertEqual(walked(rule, table, tuple(Change.between(table, other).turns())), other)


class Applied(unittest.TestCase):
    def refused(self, change, rule, table):
        with self.assertRaises(CannotChange) as caught:
            change.applied(rule, table)
        return caught.exception.place

    def test_at_its_bounds(self):
        change = Change(SWAP)
        self.assertEqual(change.applied(LATE, ((2, 1), (0, 2))), ((0, 3), (2, 0)))
        self.assertEqual(change.applied(LATE, ((2, 0), (0, 2))), ((0, 2), (2, 0)))
        self.assertEqual(self.refused(change, LATE, ((1, 0), (0, 2))), (0, 0))
        self.assertEqual(self.refused(change, LATE, ((2, 0), (0, 1))), (1, 1))
        self.assertEqual(self.refused(change, LATE, ((0, 0), (0, 0))), (0, 0))
        half = MOST // 2
        great = half * Change(((-1, 1), (1, -1)))
        self.assertEqual(great.applied(LATE, ((half, 0), (0, half))), ((0, half), (half, 0)))

    def test_barred_places(self):
        # In STEEP (0, 1) is barred.
        self.assertEqual(self.refused(Change(SWAP), STEEP, ((2, 0), (0, 2))), (0, 1))
        self.assertEqual(self.refused(-Change(SWAP), STEEP, ((2, 0), (2, 2))), (0, 1))
        self.assertEqual(Change(((0, 0), (0, 0))).applied(STEEP, ((2, 0), (0, 2))), ((2, 0), (0, 2)))
        self.assertEqual(self.refused(Change(SWAP), (2, ()), ((0, 0), (0, 0))), (0, 0))

    def test_against_the_words(self):
        random, seen = Random(193), {True: 0, False: 0}
        for rule in random_rules(194, 150, (2, 3, 4, 5)):
            for _ in range(4):
                table = random_table(random, rule, 12)
                cells = random_cells(random, rule[0], 2)
                after = combined(table, cells, 1, 1)
                wrong = [
                    (i, j) for i, row in enumerate(after) for j, many in enumerate(row)
                    if many < 0 or many > 0 and (i, j) not in prices_by_pair(rule)
                ]
                seen[wrong == []] += 1
                if wrong:
                    self.assertEqual(self.refused(Change(cells), rule, table), wrong[0])
                else:
                    self.assertEqual(Change(cells).applied(rule, table), after)
                    require_table(rule, after)
                    self.assertEqual(sums_of(after), sums_of(table))
        self.assertGreater(min(seen.values()), 50)


class Arguments(unittest.TestCase):
    def test_by_name_in_any_order(self):
        table, other = ((2, 1), (0, 2)), ((0, 3), (2, 0))
        self.assertEqual(Change(cells=SWAP).cells, SWAP)
        self.assertEqual(Change.between(other=other, table=table).cells, SWAP)
        self.assertEqual(Change.of(times=2, shifts=2, ring=((0, 0), (1, 1))).cells, SWAP)
        self.assertEqual(Change(SWAP).applied(table=table, rule=LATE), other)

    def test_they_stay(self):
        wrong = [[0, 0], [0, {"a": [1]}]]
        before = deepcopy(wrong)
        with self.assertRaises(InvalidChange):
            Change(wrong)
        table = ((2, 1), (0, 2))
        change = Change(SWAP)
        self.assertEqual([change.applied(LATE, table), list(change.turns())],
                         [change.applied(LATE, table), list(change.turns())])
        self.assertEqual((wrong, table, change.cells), (before, ((2, 1), (0, 2)), SWAP))


if __name__ == "__main__":
    unittest.main()
