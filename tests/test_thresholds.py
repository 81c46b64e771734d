"""Points 3 (rings of at most r people) and 8, and Stage 5: thresholds."""

import unittest
from copy import deepcopy

from swaprings.tables import require_table, sums_of
from swaprings.thresholds import are_joined, least_parted, parted
from tests.samples import (
    BOTH, EMPTY, FULL, LATE, SIX, STEEP, bare_rings_by_words, random_rules, reached_by_words, rings_by_words,
    round_rule, tables_of_people, turned_by_words,
)

MOST = 10 ** 30
FOUR = round_rule(4)
FIVE = round_rule(5)
WITHOUT = [LATE, STEEP, EMPTY, FULL, (2, ()), (5, ())]
RULES = [SIX, FOUR, FIVE, BOTH] + random_rules(31, 40, (3, 4, 5))


def are_joined_by_words(rule, people, most):
    """Tells it by all tables of so many people."""
    by_sums = {}
    for table in tables_of_people(rule, people):
        by_sums.setdefault(sums_of(table), []).append(table)
    return all(
        reached_by_words(rule, tables[0], most) == set(tables) for tables in by_sums.values() if len(tables) > 1
    )


class Joined(unittest.TestCase):
    def test_at_the_bounds(self):
        for rule, size in [(SIX, 3), (FOUR, 4), (FIVE, 5)]:
            for most in (2, 3, 4, 5):
                for people in (0, 1, most, most + 1, size - 1, size, size + 1, 6, 7, MOST - 1, MOST):
                    self.assertIs(are_joined(rule, people, most), not most < size <= people, (rule, people, most))
                self.assertEqual(least_parted(rule, most), size if most < size else None)

    def test_bare_rings_of_two_sizes(self):
        told = [[are_joined(BOTH, people, most) for people in (2, 3, 4, 5, MOST)] for most in (2, 3, 4, 5)]
        self.assertEqual(told, [
            [True, False, False, False, False], [True, True, False, False, False], [True] * 5, [True] * 5,
        ])
        self.assertEqual([least_parted(BOTH, most) for most in (2, 3, 4, 5)], [3, 4, None, None])

    def test_without_a_bare_ring(self):
        for rule in WITHOUT:
            for most in (2, 3, 4, 5):
                for people in (0, 1, 2, 3, 4, 5, 6, MOST):
                    self.assertIs(are_joined(rule, people, most), True)
                    self.assertIsNone(parted(rule, people, most))
                self.assertIsNone(least_parted(rule, most))

    def test_by_all_tables_of_few_people(self):
        seen = set()
        for rule in [LATE, STEEP, EMPTY, SIX, FOUR] + random_rules(32, 25, (2, 3, 4)):
            for people in range(5 if len(rule[1]) < 10 else 4):
                for most in (2, 3, 4):
                    told = are_joined(rule, people, most)
                    self.assertIs(told, are_joined_by_words(rule, people, most), (rule, people, most))
                    seen.add((told, people, most))
        self.assertTrue({(False, 3, 2), (False, 4, 2), (False, 4, 3), (True, 4, 3), (True, 4, 2)} <= seen)

    def test_by_all_tables_of_larger_rings(self):
        for rule, people, most in [(FIVE, 4, 2), (FIVE, 5, 4), (FIVE, 5, 5), (BOTH, 4, 3), (BOTH, 3, 3)]:
            self.assertIs(are_joined(rule, people, most), are_joined_by_words(rule, people, most))

    def test_as_the_bare_rings_tell(self):
        for rule in RULES:
            sizes = [len(ring) for ring in bare_rings_by_words(rule)]
            for most in (2, 3, 4, 5):
                above = [size for size in sizes if size > most]
                self.assertEqual(least_parted(rule, most), min(above, default=None))
                for people in (0, 2, 3, 4, 5, 6, MOST):
                    self.assertIs(are_joined(rule, people, most), not any(size <= people for size in above))


class Parted(unittest.TestCase):
    def check(self, rule, people, most):
        rings = [ring for ring in bare_rings_by_words(rule) if most < len(ring) <= people]
        pair = parted(rule, people, most)
        self.assertEqual(pair is None, are_joined(rule, people, most))
        self.assertEqual(pair is None, not rings)
        if pair is None:
            return None
        rows = [[0] * rule[0] for _ in range(rule[0])]
        for i, j in rings[0]:
            rows[i][j] = 1
        rows[rings[0][0][0]][rings[0][0][1]] += people - len(rings[0])
        first = tuple(map(tuple, rows))
        self.assertEqual(pair, (first, turned_by_words(first, rings[0], 1)))
        for table in pair:
            require_table(rule, table)
            self.assertEqual(sum(map(sum, table)), people)
        self.assertEqual(sums_of(pair[0]), sums_of(pair[1]))
        return pair

    def test_of_six(self):
        self.assertIsNone(parted(SIX, 2, 2))
        self.assertEqual(parted(SIX, 3, 2), (((1, 0, 0), (0, 1, 0), (0, 0, 1)), ((0, 1, 0), (0, 0, 1), (1, 0, 0))))
        self.assertEqual(parted(SIX, 7, 2), (((5, 0, 0), (0, 1, 0), (0, 0, 1)), ((4, 1, 0), (0, 0, 1), (1, 0, 0))))
        self.assertEqual(parted(SIX, MOST, 2)[0], ((MOST - 2, 0, 0), (0, 1, 0), (0, 0, 1)))
        self.assertIsNone(parted(SIX, MOST, 3))

    def test_the_least_ring_that_counts(self):
        # The least of all bare rings has four people: it counts neither among three nor where four may turn.
        self.assertEqual([len(ring) for ring in bare_rings_by_words(BOTH)][:2], [4, 3])
        three, four = self.check(BOTH, 3, 2), self.check(BOTH, 4, 2)
        self.assertEqual(sorted(map(sum, three[0])), [0, 0, 1, 1, 1])
        self.assertEqual(sorted(map(sum, four[0])), [0, 1, 1, 1, 1])
        self.assertEqual(self.check(BOTH, 4, 3), four)
        self.assertIsNone(self.check(BOTH, 3, 3))

    def test_no_way_leads_from_one_to_the_other(self):
        seen = 0
        for rule in RULES:
            for most in (2, 3, 4, 5):
                for people in (0, most, most + 1, 4, 5, 6):
                    pair = self.check(rule, people, most)
                    if pair is not None:
                        seen += 1
                        self.assertNotIn(pair[1], reached_by_words(rule, pair[0], most))
                        self.assertIn(pair[1], reached_by_words(rule, pair[0], 5))
        self.assertGreaterEqual(seen, 50)

    def test_of_very_many_people(self):
        for rule in RULES:
            for most in (2, 3, 4, 5):
                for people in (MOST - 1, MOST):
                    pair = self.check(rule, people, most)
                    # Nothing can be done at all with such rings, so there is no way.
                    for ring in rings_by_words(rule) if pair else []:
                        for table in pair:
                            if len(ring) <= most:
                                self.assertIsNone(turned_by_words(table, ring, 1))


class Arguments(unittest.TestCase):
    def test_by_name_in_any_order(self):
        self.assertIs(are_joined(most=2, people=3, rule=SIX), False)
        self.assertEqual(least_parted(most=2, rule=SIX), 3)
        self.assertEqual(parted(most=2, rule=SIX, people=3), parted(SIX, 3, 2))

    def test_they_stay(self):
        before = deepcopy(BOTH)
        told = (are_joined(BOTH, 4, 3), least_parted(BOTH, 2), parted(BOTH, 4, 3))
        self.assertEqual(BOTH, before)
        self.assertEqual((are_joined(BOTH, 4, 3), least_parted(BOTH, 2), parted(BOTH, 4, 3)), told)


if __name__ == "__main__":
    unittest.main()
