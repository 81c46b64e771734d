"""Point 14 and Stage 10: spares."""

import unittest
from copy import deepcopy

from swaprings.rings import bare_rings
from swaprings.rules import steps_of
from swaprings.spares import is_spare, spare_steps, spare_way, spares_of
from swaprings.tables import is_ring, sums_of
from tests.samples import (
    BOTH, EMPTY, FULL, LATE, SIX, STEEP, bare_rings_by_words, prices_by_pair, random_rules, reached_by_words,
    round_rule, tables_of_people, turned_by_words,
)


def unpriced_rule(shifts, pairs):
    return (shifts, tuple((i, j, 0) for i, j in sorted(pairs)))


def with_a_free_shift(shifts):
    """A round of all shifts but the last one, which leads to all and to which all lead."""
    last = shifts - 1
    around = [(i, j % last) for i in range(last) for j in (i, i + 1)]
    return unpriced_rule(shifts, around + [(i, last) for i in range(last)] + [(last, j) for j in range(shifts)])


FREE = with_a_free_shift(4)
FREE_FIVE = with_a_free_shift(5)
# Steps lead from 3 to all, from all to 4: (3, 4) is spare, and it alone, though (3, 3) and (4, 4) are steps.
APART = unpriced_rule(5, [(0, 0), (0, 1), (1, 1), (1, 2), (2, 0), (2, 2), (3, 0), (3, 1), (3, 2), (3, 4), (0, 4),
                          (1, 4), (2, 4), (3, 3), (4, 4)])
# No step is spare for all of its bare rings.
SEVERAL = unpriced_rule(5, [
    (0, 0), (0, 1), (0, 2), (0, 3), (1, 0), (1, 2), (1, 3), (1, 4), (2, 0), (2, 1), (2, 2), (2, 4), (4, 1), (4, 2),
    (4, 3), (4, 4),
])
# A step is spare for all of its bare rings.
ONE_OR_MORE = unpriced_rule(5, [
    (0, 0), (0, 1), (0, 2), (0, 3), (0, 4), (1, 1), (1, 2), (1, 3), (1, 4), (2, 0), (2, 2), (2, 3), (2, 4), (3, 0),
    (3, 1), (3, 3), (3, 4), (4, 0), (4, 1), (4, 2), (4, 3),
])
# Two of its bare rings have a spare step, the other four have none.
LACKING = unpriced_rule(5, [
    (1, 1), (1, 2), (1, 3), (2, 0), (2, 2), (2, 3), (2, 4), (3, 1), (3, 2), (3, 3), (3, 4), (4, 0), (4, 1), (4, 3),
    (4, 4),
])
WITH_RINGS = [SIX, BOTH, FREE, FREE_FIVE, APART, SEVERAL, ONE_OR_MORE, LACKING, round_rule(4), round_rule(5)]
WITHOUT = [LATE, STEEP, EMPTY, FULL, (2, ()), (5, ())]
RULES = WITH_RINGS + WITHOUT + random_rules(101, 120, (3, 4, 5))


def spare_by_words(rule, ring):
    """The steps that are spare for the bare ring, ascending."""
    allowed = prices_by_pair(rule)
    return tuple(
        (x, y) for x, y in sorted(allowed)
        if all((x, j) in allowed for _, j in ring) and all((i, y) in allowed for i, _ in ring)
    )


def begun(*pair):
    return (tuple(sorted(pair)), 1)


def spare_way_by_words(ring, step):
    firsts, seconds, (x, y), m = [i for i, _ in ring], [j for _, j in ring], step, len(ring) - 1
    turns = [begun(ring[0], step)]
    for t in range(m, 0, -1):
        turns.append(begun(ring[t], (x, seconds[t + 1] if t < m else seconds[0])))
    return tuple(turns + [begun((firsts[0], y), (x, seconds[1]))])


def table_of(rule, steps):
    return tuple(tuple(int((i, j) in steps) for j in range(rule[0])) for i in range(rule[0]))


class Spare(unittest.TestCase):
    def test_of_free(self):
        for ring in (((0, 0), (1, 1), (2, 2)), ((0, 1), (2, 0), (1, 2))):
            told = [step for step in steps_of(FREE) if is_spare(FREE, ring, step)]
            self.assertEqual(told, [(3, 3)])

    def test_both_halves_are_asked(self):
        ring = ((0, 0), (1, 1), (2, 2))
        self.assertEqual([step for step in steps_of(APART) if is_spare(APART, ring, step)], [(3, 4)])
        for lacking in [(3, 0), (3, 1), (3, 2), (0, 4), (1, 4), (2, 4)]:
            less = unpriced_rule(5, [step for step in steps_of(APART) if step != lacking])
            self.assertIs(is_spare(less, ring, (3, 4)), False)

    def test_each_bare_ring_and_step(self):
        seen = set()
        for rule in RULES:
            for ring in bare_rings_by_words(rule):
                for step in steps_of(rule):
                    told = is_spare(rule, ring, step)
                    self.assertIs(told, step in spare_by_words(rule, ring))
                    seen.add((len(ring), told))
        self.assertEqual(seen, {(3, True), (3, False), (4, True), (4, False), (5, False)})


class SpareWay(unittest.TestCase):
    def test_of_free(self):
        self.assertEqual(spare_way(FREE, ((0, 0), (1, 1), (2, 2)), (3, 3)), (
            (((0, 0), (3, 3)), 1), (((2, 2), (3, 0)), 1), (((1, 1), (3, 2)), 1), (((0, 3), (3, 1)), 1),
        ))

    def test_each_ring_is_begun_at_its_lesser_first_shift(self):
        # Shift 0 leads to all here, so that it comes first in each ring.
        turned_round = unpriced_rule(4, [(3 - i, 3 - j) for i, j in steps_of(FREE)])
        ring = bare_rings(turned_round)[0]
        self.assertEqual(ring, ((1, 1), (3, 3), (2, 2)))
        self.assertEqual(spare_way(turned_round, ring, (0, 0)), (
            (((0, 0), (1, 1)), 1), (((0, 1), (2, 2)), 1), (((0, 2), (3, 3)), 1), (((0, 3), (1, 0)), 1),
        ))

    def test_turn_by_turn_from_one_person_on_each_step(self):
        seen = set()
        for rule in RULES:
            for ring in bare_rings_by_words(rule):
                for step in spare_by_words(rule, ring):
                    way = spare_way(rule, ring, step)
                    self.assertEqual(way, spare_way_by_words(ring, step))
                    self.assertEqual(len(way), len(ring) + 1)
                    self.assertNotIn(step, ring)
                    table = table_of(rule, ring + (step,))
                    end = turned_by_words(table, ring, 1)
                    for two, times in way:
                        self.assertTrue(is_ring(rule, two))
                        self.assertEqual((len(two), times), (2, 1))
                        table = turned_by_words(table, two, times)
                        self.assertIsNotNone(table)
                    self.assertEqual(table, end)
                    self.assertEqual(table[step[0]][step[1]], 1)
                    seen.add(len(ring))
        self.assertEqual(seen, {3, 4})


class Spares(unittest.TestCase):
    def check(self, rule):
        rings = bare_rings_by_words(rule)
        choices = [spare_by_words(rule, ring) for ring in rings]
        everywhere = tuple(step for step in steps_of(rule) if all(step in choice for choice in choices))
        self.assertEqual(spare_steps(rule), everywhere)
        found = spares_of(rule)
        if () in choices:
            self.assertIsNone(found)
            return None
        self.assertIsInstance(found, tuple)
        self.assertEqual(found, tuple(sorted(set(found))))
        self.assertTrue(set(found) <= set(steps_of(rule)))
        self.assertTrue(all(set(choice) & set(found) for choice in choices))
        for step in found:
            self.assertFalse(all(set(choice) & set(found) - {step} for choice in choices))
        return found

    def test_of_rules_that_are_told(self):
        self.assertEqual((spare_steps(FREE), self.check(FREE)), (((3, 3),), ((3, 3),)))
        self.assertEqual((spare_steps(FREE_FIVE), self.check(FREE_FIVE)), (((4, 4),), ((4, 4),)))
        self.assertEqual((spare_steps(APART), self.check(APART)), (((3, 4),), ((3, 4),)))
        self.assertEqual((spare_steps(SEVERAL), len(self.check(SEVERAL)) > 1), ((), True))
        self.assertEqual(spare_steps(ONE_OR_MORE), ((0, 3),))
        self.check(ONE_OR_MORE)

    def test_there_are_none(self):
        for rule in (SIX, BOTH, round_rule(4), round_rule(5)):
            self.assertEqual((spare_steps(rule), self.check(rule)), ((), None))
        wide = unpriced_rule(5, [(0, 0), (0, 1), (1, 1), (1, 2), (2, 0), (2, 2), (3, 0), (3, 1), (3, 2), (3, 3),
                                 (0, 3), (1, 3), (2, 3), (4, 3), (4, 4)])
        self.assertEqual(self.check(wide), ((3, 3),))
        less = unpriced_rule(5, [step for step in steps_of(wide) if step != (3, 1)])
        self.assertIsNone(self.check(less))

    def test_without_a_bare_ring(self):
        for rule in WITHOUT:
            self.assertEqual((spare_steps(rule), spares_of(rule)), (steps_of(rule), ()))
            self.check(rule)

    def test_random_rules(self):
        found = [self.check(rule) for rule in RULES]
        sizes = [None if spares is None else len(spares) for spares in found]
        self.assertTrue({None, 0, 1, 4} <= set(sizes))

    def test_some_rings_have_a_spare_step_and_one_has_none(self):
        choices = [spare_by_words(LACKING, ring) for ring in bare_rings_by_words(LACKING)]
        self.assertEqual(sorted(map(len, choices)), [0, 0, 0, 0, 1, 1])
        self.assertEqual((spare_steps(LACKING), self.check(LACKING)), ((), None))

    def test_with_somebody_on_each_of_them_rings_of_two_are_enough(self):
        for rule in (FREE, APART):
            held, by_sums = spares_of(rule), {}
            for table in tables_of_people(rule, 4):
                if all(table[i][j] > 0 for i, j in held):
                    by_sums.setdefault(sums_of(table), []).append(table)
            for tables in by_sums.values():
                if len(tables) > 1:
                    self.assertTrue(set(tables) <= reached_by_words(rule, tables[0], 2))


class Arguments(unittest.TestCase):
    def test_by_name_in_any_order(self):
        ring = ((0, 0), (1, 1), (2, 2))
        self.assertIs(is_spare(step=(3, 3), ring=ring, rule=FREE), True)
        self.assertEqual(spare_way(step=(3, 3), ring=ring, rule=FREE), spare_way(FREE, ring, (3, 3)))
        self.assertEqual((spare_steps(rule=FREE), spares_of(rule=FREE)), (((3, 3),), ((3, 3),)))

    def test_they_stay(self):
        ring, step = ((0, 0), (1, 1), (2, 2)), (3, 3)
        before = deepcopy((FREE, ring, step))

        def told():
            return is_spare(FREE, ring, step), spare_way(FREE, ring, step), spare_steps(FREE), spares_of(FREE)

        self.assertEqual(told(), told())
        self.assertEqual((FREE, ring, step), before)


if __name__ == "__main__":
    unittest.main()
