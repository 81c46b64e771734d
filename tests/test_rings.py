"""Point 7 and Stage 4: chords, halves, bare rings, the crew and trails."""

import unittest
from copy import deepcopy
from itertools import permutations
from random import Random

from swaprings.orders import good_lines
from swaprings.rings import bare_rings, chords, crew, halves, is_bare, trails
from swaprings.tables import is_ring
from tests.samples import (
    BOTH, EMPTY, FULL, LATE, SIX, STEEP, all_unpriced, bare_rings_by_words, chords_by_words, prices_by_pair,
    random_rules, rings_by_words, round_rule, turned_by_words,
)

FREE = (3, tuple((i, j, i - j) for i in range(3) for j in range(3)))
FIVE = round_rule(5)
CHORDED = (5, tuple(sorted(FIVE[1] + ((0, 3, 4),))))
RULES = [LATE, STEEP, SIX, EMPTY, FREE, BOTH, round_rule(4), FIVE, CHORDED, (2, ()), (5, ())]
RANDOM_RULES = random_rules(21, 60, (2, 3, 4, 5))


def some_rings(seed, rule, many):
    rings = rings_by_words(rule)
    return rings if len(rings) <= many else Random(seed).sample(rings, many)


def begun(steps):
    """The steps of a ring, going round, begun at the least first shift."""
    return next(
        tuple(steps[t:] + steps[:t]) for t in range(len(steps)) if steps[t][0] == min(i for i, _ in steps)
    )


def halves_by_words(ring, chord):
    many = len(ring)
    t = next(t for t in range(many) if ring[t][0] == chord[0])
    u = next(u for u in range(many) if ring[u][1] == chord[1])
    first, at = [ring[t]], u
    while at != t:
        first.append(ring[at])
        at = (at + 1) % many
    second, at = [chord], (t + 1) % many
    while at != u:
        second.append(ring[at])
        at = (at + 1) % many
    return begun(first), begun(second)


def is_trail_by_words(rule, trail):
    allowed, firsts, seconds = prices_by_pair(rule), trail[::2], trail[1::2]
    if len(firsts) != len(seconds) + 1 or len(set(firsts)) < len(firsts) or len(set(seconds)) < len(seconds):
        return False
    if trail[0] != min(firsts):
        return False
    return all(
        ((i, j) in allowed) == (abs(2 * s - (2 * t + 1)) == 1)
        for s, i in enumerate(firsts) for t, j in enumerate(seconds)
    )


def goes_on_by_words(rule, trail):
    return [
        (j, i) for j in range(rule[0]) for i in range(rule[0])
        if j not in trail[1::2] and i not in trail[::2] and i > trail[0] and is_trail_by_words(rule, trail + (j, i))
    ]


def closes_by_words(rule, trail):
    allowed, firsts = prices_by_pair(rule), trail[::2]
    return [
        j for j in range(rule[0]) if j not in trail[1::2] and len(firsts) >= 3
        and [(i, j) in allowed for i in firsts] == [True] + [False] * (len(firsts) - 2) + [True]
    ]


def trails_by_words(rule, most):
    found = newest = [(i,) for i in range(rule[0])]
    for _ in range(most - 1):
        newest = [trail + pair for trail in newest for pair in goes_on_by_words(rule, trail)]
        found = found + newest
    return tuple(sorted(found))


class Chords(unittest.TestCase):
    def test_rings_of_two_have_none(self):
        self.assertEqual(chords(LATE, ((0, 0), (1, 1))), ())
        self.assertEqual(chords(LATE, ((0, 1), (1, 0))), ())
        self.assertEqual(chords(FULL, ((1, 4), (3, 0))), ())
        self.assertIs(is_bare(LATE, ((0, 0), (1, 1))), False)

    def test_rings_of_three_to_five(self):
        for many in (3, 4, 5):
            ring = tuple((t, t) for t in range(many))
            self.assertEqual(chords(round_rule(many), ring), ())
            self.assertIs(is_bare(round_rule(many), ring), True)
            self.assertIs(is_bare(FULL, ring), False)
        self.assertEqual(chords(FREE, ((0, 0), (1, 1), (2, 2))), ((0, 2), (1, 0), (2, 1)))
        self.assertEqual(chords(FREE, ((0, 1), (1, 0), (2, 2))), ((0, 2), (1, 1), (2, 0)))
        self.assertEqual(chords(CHORDED, ((0, 0), (1, 1), (2, 2), (3, 3), (4, 4))), ((0, 3),))
        self.assertEqual(len(chords(FULL, ((0, 0), (1, 1), (2, 2), (3, 3), (4, 4)))), 15)
        self.assertIs(is_bare(CHORDED, ((0, 0), (1, 1), (2, 2), (3, 3), (4, 4))), False)

    def test_as_the_words_tell(self):
        for rule in RULES + RANDOM_RULES + [FULL]:
            for ring in some_rings(22, rule, 150):
                told = chords(rule, ring)
                self.assertIsInstance(told, tuple)
                self.assertEqual(told, tuple(chords_by_words(rule, ring)))
                self.assertIs(is_bare(rule, ring), len(ring) > 2 and told == ())


class Halves(unittest.TestCase):
    def test_a_ring_of_five(self):
        ring = ((0, 0), (1, 1), (2, 2), (3, 3), (4, 4))
        self.assertEqual(halves(CHORDED, ring, (0, 3)), (((0, 0), (3, 3), (4, 4)), ((0, 3), (1, 1), (2, 2))))
        self.assertEqual(halves(FULL, ring, (3, 1)), (((1, 1), (2, 2), (3, 3)), ((0, 0), (3, 1), (4, 4))))
        self.assertEqual(halves(FULL, ring, (4, 3)), (((3, 3), (4, 4)), ((0, 0), (1, 1), (2, 2), (4, 3))))
        self.assertEqual(halves(FULL, ring, (2, 4)), (((0, 0), (1, 1), (2, 2), (4, 4)), ((2, 4), (3, 3))))

    def test_each_chord_gives_two_smaller_rings_that_do_the_same(self):
        seen = set()
        for rule in [FREE, BOTH, CHORDED, FULL] + RANDOM_RULES:
            for ring in some_rings(23, rule, 60):
                table = tuple(tuple(4 if (i, j) in ring else 0 for j in range(rule[0])) for i in range(rule[0]))
                for chord in chords_by_words(rule, ring):
                    parts = halves(rule, ring, chord)
                    self.assertEqual(parts, halves_by_words(list(ring), chord))
                    self.assertIsInstance(parts, tuple)
                    after = table
                    for part in parts:
                        self.assertTrue(is_ring(rule, part))
                        self.assertLess(len(part), len(ring))
                        after = turned_by_words(after, part, 4)
                    self.assertEqual(after, turned_by_words(table, ring, 4))
                    seen.add((len(ring), len(parts[0]), len(parts[1])))
        self.assertEqual(seen, {(3, 2, 2), (4, 2, 3), (4, 3, 2), (5, 2, 4), (5, 3, 3), (5, 4, 2)})


class BareRings(unittest.TestCase):
    def check(self, rule):
        rings = bare_rings(rule)
        self.assertIsInstance(rings, tuple)
        self.assertEqual(rings, bare_rings_by_words(rule))
        self.assertEqual(crew(rule), max([len(ring) for ring in rings], default=2))
        return rings

    def test_rules_that_are_told(self):
        self.assertEqual(bare_rings(SIX), (((0, 0), (1, 1), (2, 2)), ((0, 1), (2, 0), (1, 2))))
        self.assertEqual(bare_rings(round_rule(4)), (
            ((0, 0), (1, 1), (2, 2), (3, 3)), ((0, 1), (3, 0), (2, 3), (1, 2)),
        ))
        self.assertEqual([crew(round_rule(shifts)) for shifts in (2, 3, 4, 5)], [2, 3, 4, 5])
        self.assertEqual([len(ring) for ring in bare_rings(BOTH)], [4, 3, 4, 3, 3, 3])
        self.assertEqual(crew(BOTH), 4)

    def test_without_steps_and_with_all(self):
        for rule in (EMPTY, (2, ()), (5, ()), LATE, STEEP, FREE, FULL, CHORDED):
            self.assertEqual(bare_rings(rule), bare_rings_by_words(rule))
        for rule in (EMPTY, (2, ()), (5, ()), LATE, STEEP, FREE, FULL):
            self.assertEqual((bare_rings(rule), crew(rule)), ((), 2))

    def test_all_rules_of_two_and_three_shifts(self):
        found = [self.check(rule) for shifts in (2, 3) for rule in all_unpriced(shifts)]
        self.assertEqual(len([rings for rings in found if rings]), 6)

    def test_random_rules_of_two_to_five_shifts(self):
        found = [self.check(rule) for rule in RULES + RANDOM_RULES + random_rules(24, 40, (4, 5))]
        self.assertEqual({len(ring) for rings in found for ring in rings}, {3, 4, 5})

    def test_there_is_none_exactly_if_there_are_good_lines(self):
        for rule in RULES + RANDOM_RULES:
            self.assertIs(good_lines(rule) is None, bare_rings(rule) != ())


class Trails(unittest.TestCase):
    def test_of_six(self):
        self.assertEqual(trails(SIX, 1), ((0,), (1,), (2,)))
        self.assertEqual(trails(SIX, 2), ((0,), (0, 0, 2), (0, 1, 1), (1,), (1, 2, 2), (2,)))
        self.assertEqual(trails(SIX, 3), (
            (0,), (0, 0, 2), (0, 0, 2, 2, 1), (0, 1, 1), (0, 1, 1, 2, 2), (1,), (1, 2, 2), (2,),
        ))
        self.assertEqual(trails(SIX, 5), trails(SIX, 3))

    def test_a_trail_stops_where_it_would_touch_itself(self):
        self.assertEqual(trails(LATE, 5), ((0,), (0, 0, 1), (0, 1, 1), (1,)))
        self.assertEqual(max(len(trail) for trail in trails(FULL, 5)), 3)
        self.assertEqual(max(len(trail) for trail in trails(FIVE, 5)), 9)
        self.assertEqual(max(len(trail) for trail in trails(FIVE, 4)), 7)

    def test_without_steps_each_shift_is_one(self):
        for rule in (EMPTY, (2, ()), (5, ())):
            for most in (1, 2, 3, 4, 5):
                self.assertEqual(trails(rule, most), tuple((i,) for i in range(rule[0])))

    def test_grown_pair_by_pair(self):
        for rule in RULES + RANDOM_RULES + [FULL]:
            for most in (1, 2, 3, 4, 5):
                found = trails(rule, most)
                self.assertIsInstance(found, tuple)
                self.assertEqual(found, trails_by_words(rule, most))

    def test_all_tuples_of_small_rules(self):
        for rule in [LATE, STEEP, SIX, EMPTY, FREE] + random_rules(25, 20, (2, 3)):
            shifts, found = range(rule[0]), []
            for many in range(1, rule[0] + 1):
                for firsts in permutations(shifts, many):
                    for seconds in permutations(shifts, many - 1):
                        trail = [0] * (2 * many - 1)
                        trail[::2], trail[1::2] = firsts, seconds
                        if is_trail_by_words(rule, tuple(trail)):
                            found.append(tuple(trail))
            self.assertEqual(trails(rule, 5), tuple(sorted(found)))

    def test_each_bare_ring_closes_one(self):
        for rule in RULES + RANDOM_RULES:
            for most in (3, 4, 5):
                closed = sorted(
                    tuple(zip(trail[::2], (j,) + trail[1::2]))
                    for trail in trails(rule, most) for j in closes_by_words(rule, trail)
                )
                self.assertEqual(tuple(closed), tuple(ring for ring in bare_rings(rule) if len(ring) <= most))


class Arguments(unittest.TestCase):
    def test_by_name_in_any_order(self):
        ring = ((0, 0), (1, 1), (2, 2))
        self.assertEqual(chords(ring=ring, rule=FREE), chords(FREE, ring))
        self.assertIs(is_bare(ring=ring, rule=SIX), True)
        self.assertEqual(halves(chord=(0, 2), ring=ring, rule=FREE), halves(FREE, ring, (0, 2)))
        self.assertEqual((bare_rings(rule=SIX), crew(rule=SIX)), (bare_rings(SIX), 3))
        self.assertEqual(trails(most=2, rule=SIX), trails(SIX, 2))

    def test_they_stay(self):
        for rule in [FREE, SIX, CHORDED]:
            ring = rings_by_words(rule)[-1]
            before = deepcopy((rule, ring))
            for chord in chords(rule, ring):
                halves(rule, ring, chord)
            told = (is_bare(rule, ring), bare_rings(rule), crew(rule), trails(rule, 5))
            self.assertEqual((rule, ring), before)
            self.assertEqual((is_bare(rule, ring), bare_rings(rule), crew(rule), trails(rule, 5)), told)


if __name__ == "__main__":
    unittest.main()
