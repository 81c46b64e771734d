"""Points 3, 5 (turns) and 10, and Stage 7: ways."""

import unittest
from copy import deepcopy
from random import Random

from swaprings.errors import CannotTurn
from swaprings.filling import filled
from swaprings.orders import least_order
from swaprings.rings import crew
from swaprings.tables import is_ring, price_of_table, require_table, sums_of
from swaprings.thresholds import are_joined
from swaprings.ways import agreeing_turns, calm_way, reached, walked, way_between
from tests.samples import (
    BOTH, CLIMBING, EMPTY, FALLING, FULL, LATE, SIX, STEEP, odd_values, random_order, random_rules, random_table,
    reached_by_words, rings_by_words, round_rule, tables_with, turned_by_words,
)

MOST = 10 ** 30
FIVE = round_rule(5)
RANDOM_RULES = random_rules(51, 80, (2, 3, 4, 5))
RULES = [LATE, STEEP, SIX, EMPTY, BOTH, FIVE, FULL, CLIMBING, FALLING] + RANDOM_RULES
ORDERLY = [rule for rule in RULES if least_order(rule) is not None]
ONE = ((1, 0, 0), (0, 1, 0), (0, 0, 1))
AROUND = ((0, 0), (1, 1), (2, 2))


def other_table(random, rule, table, turns=12):
    """A table with the same sums, to which some turns of any rings lead."""
    all_rings = rings_by_words(rule)
    for _ in range(turns):
        some = random.sample(all_rings, min(len(all_rings), 150))
        rings = [ring for ring in some if all(table[i][j] > 0 for i, j in ring)]
        if rings:
            ring = random.choice(rings)
            most = min(table[i][j] for i, j in ring)
            table = turned_by_words(table, ring, random.choice((1, most, random.randrange(most) + 1)))
    return table


class Ways(unittest.TestCase):
    def walk(self, rule, table, way, most_turns, most_people):
        """Walks the way turn by turn; returns the table at its end, and the prices on it."""
        self.assertIsInstance(way, tuple)
        self.assertLessEqual(len(way), most_turns)
        end, prices = table, [price_of_table(rule, table)]
        for turn in way:
            self.assertTrue(isinstance(turn, tuple) and len(turn) == 2)
            ring, times = turn
            self.assertTrue(is_ring(rule, ring))
            self.assertLessEqual(len(ring), most_people)
            self.assertTrue(type(times) is int and 1 <= times <= MOST)
            end = turned_by_words(end, ring, times)
            self.assertIsNotNone(end)
            prices.append(price_of_table(rule, end))
        self.assertEqual(walked(rule, table, way), end)
        return end, prices


class CalmWay(Ways):
    def check(self, rule, order, table):
        way = calm_way(rule, order, table)
        end, prices = self.walk(rule, table, way, 300, 2)
        self.assertEqual(prices, sorted(prices, reverse=True))
        zeros = (0,) * rule[0]
        self.assertEqual(filled(rule, order, sums_of(table)), (end, (zeros, zeros)))
        return way

    def test_of_late(self):
        order = least_order(LATE)
        self.assertEqual(self.check(LATE, order, ((2, 1), (0, 2))), ((((0, 0), (1, 1)), 2),))
        self.assertEqual(self.check(LATE, order, ((0, 3), (2, 0))), ())
        self.assertEqual(self.check(LATE, order, ((0, 0), (0, 0))), ())

    def test_few_people(self):
        random = Random(52)
        for rule in ORDERLY:
            for people in (0, 1, 2, 3, 6, 12, 40):
                for order in (least_order(rule), random_order(random, rule)):
                    self.check(rule, order, random_table(random, rule, people))

    def test_very_many_people(self):
        random, seen = Random(53), 0
        for rule in ORDERLY:
            for order in (least_order(rule), random_order(random, rule)):
                seen = max(seen, len(self.check(rule, order, random_table(random, rule, MOST))))
        self.assertGreater(seen, 10)

    def test_all_steps_with_people(self):
        random = Random(54)
        for rule in (FULL, CLIMBING, FALLING):
            for _ in range(20):
                table = tuple(tuple(random.choice((1, 2, 5, 10 ** 28)) for _ in range(5)) for _ in range(5))
                self.check(rule, random_order(random, rule), table)

    def test_somewhat_more_people_than_a_turn_may_have(self):
        table = ((3 * MOST, 0), (0, 3 * MOST + 1))
        self.assertEqual(self.check(LATE, least_order(LATE), table), ((((0, 0), (1, 1)), MOST),) * 3)

    def test_the_first_turns_may_keep_the_price(self):
        # From this table no single turn makes it cheaper, though it is not a cheapest one.
        seen = 0
        random = Random(55)
        for rule in ORDERLY:
            for _ in range(6):
                table = random_table(random, rule, 6)
                way = self.check(rule, least_order(rule), table)
                if way and price_of_table(rule, walked(rule, table, way[:1])) == price_of_table(rule, table):
                    seen += price_of_table(rule, walked(rule, table, way)) < price_of_table(rule, table)
        self.assertGreater(seen, 3)

    def test_all_tables_with_the_same_sums(self):
        random = Random(56)
        for rule in ORDERLY:
            sums = sums_of(random_table(random, rule, 5))
            tables = tables_with(rule, sums)
            order = random_order(random, rule)
            ends = {walked(rule, table, self.check(rule, order, table)) for table in tables[:60]}
            self.assertEqual(len(ends), 1)


class WayBetween(Ways):
    def check(self, rule, table, other, most):
        way = way_between(rule, table, other, most)
        end, _ = self.walk(rule, table, way, 500, most)
        self.assertEqual(end, other)
        return way

    def test_of_rules_that_are_told(self):
        self.assertEqual(self.check(SIX, ONE, ((0, 1, 0), (0, 0, 1), (1, 0, 0)), 3), ((AROUND, 1),))
        self.assertEqual(self.check(SIX, ONE, ONE, 2), ())
        self.assertEqual(self.check(SIX, ((MOST - 2, 0, 0), (0, 1, 0), (0, 0, 1)), (
            (MOST - 3, 1, 0), (0, 0, 1), (1, 0, 0)), 5), ((AROUND, 1),))
        self.assertEqual(
            self.check(LATE, ((0, 5), (4, 0)), ((4, 1), (0, 4)), 2), ((((0, 1), (1, 0)), 4),),
        )
        nobody = ((0,) * 3,) * 3
        self.assertEqual(self.check(EMPTY, nobody, nobody, 2), ())

    def test_somewhat_more_people_than_a_turn_may_have(self):
        table, other = ((3 * MOST, 0), (0, 3 * MOST + 1)), ((1, 3 * MOST - 1), (3 * MOST - 1, 2))
        turn = (((0, 0), (1, 1)), MOST)
        self.assertEqual(self.check(LATE, table, other, 2), (turn, turn, (turn[0], MOST - 1)))

    def test_a_ring_with_chords_becomes_rings_of_two(self):
        for many in (2, 3, 4, 5):
            table = tuple(tuple(int(i == j) for j in range(5)) for i in range(5))
            other = tuple(tuple(int(j == (i + 1) % many if i < many else i == j) for j in range(5)) for i in range(5))
            self.assertEqual(len(self.check(FULL, table, other, 2)), many - 1)
            self.assertLessEqual(len(self.check(FULL, table, other, 3)), many)

    def test_a_ring_falls_apart_only_as_far_as_it_must(self):
        table = tuple(tuple(int(i == j) for j in range(5)) for i in range(5))
        other = tuple(tuple(int(j == (i + 1) % 5) for j in range(5)) for i in range(5))
        for most in (2, 3, 4):
            with self.assertRaises(CannotTurn):
                walked(FIVE, table, self.check(FULL, table, other, most))
        self.check(FIVE, table, other, 5)

    def test_few_people(self):
        random, seen = Random(57), set()
        for rule in RULES:
            for people in (0, 1, 2, 3, 4, 5, 12):
                table = random_table(random, rule, people)
                other = other_table(random, rule, table)
                for most in (2, 3, 4, 5):
                    if are_joined(rule, sum(sums_of(table)[0]), most):
                        self.check(rule, table, other, most)
                        seen.add((most, crew(rule)))
        # Tables of fewer people than a bare ring has are joined by smaller rings, too.
        self.assertTrue({(2, 5), (3, 5), (4, 5), (5, 5), (2, 3), (3, 4), (2, 2), (5, 2)} <= seen)

    def test_tables_that_share_only_their_sums(self):
        random = Random(58)
        for rule in RULES:
            tables = tables_with(rule, sums_of(random_table(random, rule, 6)))
            for _ in range(6):
                self.check(rule, random.choice(tables), random.choice(tables), crew(rule))

    def test_very_many_people(self):
        random, seen = Random(59), 0
        for rule in RULES:
            for _ in range(4):
                table = random_table(random, rule, MOST)
                other = other_table(random, rule, table, 40)
                seen = max(seen, len(self.check(rule, table, other, crew(rule))))
        self.assertGreater(seen, 20)

    def test_all_steps_with_people(self):
        random = Random(60)
        for _ in range(20):
            table = tuple(tuple(random.choice((1, 7, 4 * 10 ** 28)) for _ in range(5)) for _ in range(5))
            for most in (2, 3, 4, 5):
                self.check(FULL, table, other_table(random, FULL, table, 40), most)


class AgreeingTurns(Ways):
    def test_each_takes_only_where_there_are_more_and_brings_only_where_there_are_fewer(self):
        random = Random(61)
        for rule in RULES:
            for people in (3, 12, MOST):
                table = random_table(random, rule, people)
                other = other_table(random, rule, table, 20)
                shifts = range(rule[0])
                cells = tuple(tuple(other[i][j] - table[i][j] for j in shifts) for i in shifts)
                turns = agreeing_turns(cells)
                self.assertLessEqual(len(turns), 25)
                self.assertEqual(self.walk(rule, table, tuple(turns), 25, 5)[0], other)
                for ring, _ in turns:
                    self.assertTrue(all(cells[i][j] < 0 for i, j in ring))
                    behind = zip([i for i, _ in ring], [j for _, j in ring[1:] + ring[:1]])
                    self.assertTrue(all(cells[i][j] > 0 for i, j in behind))


class Walked(unittest.TestCase):
    def refuses(self, index, rule, table, way):
        with self.assertRaises(CannotTurn, msg=repr(way)) as caught:
            walked(rule, table, way)
        self.assertEqual(caught.exception.index, index, repr(way))

    def test_ways(self):
        self.assertEqual(walked(SIX, ONE, ()), ONE)
        self.assertEqual(walked(SIX, ONE, ((AROUND, 1),)), ((0, 1, 0), (0, 0, 1), (1, 0, 0)))
        back = ((0, 1), (2, 0), (1, 2))
        self.assertEqual(walked(SIX, ONE, ((AROUND, 1), (back, 1)) * 500), ONE)
        half = MOST // 2
        self.assertEqual(
            walked(LATE, ((half, 0), (0, half)), ((((0, 0), (1, 1)), half), (((0, 1), (1, 0)), 1))),
            ((1, half - 1), (half - 1, 1)),
        )

    def test_the_first_that_cannot_be_done(self):
        there, back = (AROUND, 1), (((0, 1), (2, 0), (1, 2)), 1)
        for many in (0, 1, 2, 3, 10, 499):
            way = (there, back) * many
            self.refuses(2 * many, SIX, ONE, way + (back,))
            self.refuses(2 * many + 1, SIX, ONE, way + (there, there))
            self.refuses(2 * many, SIX, ONE, way + (back, there, there))
            self.refuses(2 * many, SIX, ONE, way + ((AROUND, 2),))

    def test_no_ring_and_times_out_of_bounds(self):
        there, back = (AROUND, 1), (((0, 1), (2, 0), (1, 2)), 1)
        for wrong in [
            (AROUND, 0), (AROUND, -1), (AROUND, MOST + 1), (AROUND, 10 ** 79), (AROUND[1:] + AROUND[:1], 1),
            (((0, 0), (1, 1)), 1), (((0, 0),), 1), ((), 1), (((0, 0), (1, 0)), 1), (None, 1), (((0, 2), (1, 0)), 1),
        ]:
            for ahead in ((), (there,), (there, back), (there, back, there)):
                self.refuses(len(ahead), SIX, ONE, ahead + (wrong,))
                self.refuses(len(ahead), SIX, ONE, ahead + (wrong, wrong, back))
        for value in odd_values():
            if value != AROUND:
                self.refuses(1, SIX, ONE, (there, (value, 1)))

    def test_as_the_words_tell(self):
        random = Random(62)
        for rule in [rule for rule in RULES if rings_by_words(rule)]:
            for _ in range(4):
                table = end = random_table(random, rule, 12)
                way = tuple((random.choice(rings_by_words(rule)), random.randrange(1, 3)) for _ in range(6))
                for t, (ring, times) in enumerate(way):
                    end = turned_by_words(end, ring, times)
                    if end is None:
                        self.refuses(t, rule, table, way)
                        break
                else:
                    self.assertEqual(walked(rule, table, way), end)


class Reached(unittest.TestCase):
    def check(self, rule, table, most):
        found = reached(rule, table, most)
        self.assertIsInstance(found, tuple)
        self.assertEqual(found, tuple(sorted(reached_by_words(rule, table, most))))
        for other in found:
            self.assertIs(require_table(rule, other), other)
        return found

    def test_of_six(self):
        other = ((0, 1, 0), (0, 0, 1), (1, 0, 0))
        self.assertEqual(self.check(SIX, ONE, 2), (ONE,))
        for most in (3, 4, 5):
            self.assertEqual(self.check(SIX, ONE, most), (other, ONE))

    def test_nobody_and_no_steps(self):
        for rule in (EMPTY, SIX, FULL):
            nobody = ((0,) * rule[0],) * rule[0]
            self.assertEqual(self.check(rule, nobody, 2), (nobody,))

    def test_one_person_stays(self):
        for most in (2, 3, 4, 5):
            self.assertEqual(self.check(LATE, ((0, 1), (0, 0)), most), (((0, 1), (0, 0)),))

    def test_six_people_and_all_steps(self):
        table = ((2, 0, 0, 0, 0),) + tuple(tuple(int(i == j) for j in range(5)) for i in range(1, 5))
        for most in (2, 5):
            self.assertEqual(reached(FULL, table, most), tuple(sorted(tables_with(FULL, sums_of(table)))))

    def test_larger_rings_only_where_they_are_allowed(self):
        for shifts in (3, 4, 5):
            table = tuple(tuple(int(i == j) for j in range(shifts)) for i in range(shifts))
            told = [len(self.check(round_rule(shifts), table, most)) for most in (2, 3, 4, 5)]
            self.assertEqual(told, [1 if most < shifts else 2 for most in (2, 3, 4, 5)])

    def test_all_tables_that_turns_lead_to(self):
        random, seen = Random(63), set()
        for rule in [rule for rule in RULES if rule != FULL]:
            for people in (2, 3, 4, 5, 6):
                table = random_table(random, rule, people)
                for most in (2, 3, 4, 5):
                    if people < 6 or most == 2:
                        seen.add(len(self.check(rule, table, most)) > 1)
        self.assertEqual(seen, {True, False})

    def test_all_tables_with_the_same_sums_where_they_are_joined(self):
        random = Random(64)
        for rule in RULES:
            table = random_table(random, rule, 5)
            for most in (2, 3, 4, 5):
                tables = tuple(sorted(tables_with(rule, sums_of(table))))
                if are_joined(rule, 5, most):
                    self.assertEqual(reached(rule, table, most), tables)


class Arguments(unittest.TestCase):
    def test_by_name_in_any_order(self):
        table, other, order = ((2, 1), (0, 2)), ((0, 3), (2, 0)), least_order(LATE)
        self.assertEqual(calm_way(table=table, order=order, rule=LATE), calm_way(LATE, order, table))
        self.assertEqual(way_between(most=2, other=other, table=table, rule=LATE), way_between(LATE, table, other, 2))
        self.assertEqual(walked(way=((((0, 0), (1, 1)), 2),), table=table, rule=LATE), other)
        self.assertEqual(reached(most=3, table=ONE, rule=SIX), reached(SIX, ONE, 3))

    def test_they_stay(self):
        table, other, order = ((2, 1), (0, 2)), ((0, 3), (2, 0)), least_order(LATE)
        held = (LATE, table, other, order)
        before = deepcopy(held)

        def told():
            way = way_between(LATE, table, other, 2)
            return calm_way(LATE, order, table), way, walked(LATE, table, way), reached(LATE, table, 2)

        self.assertEqual(told(), told())
        self.assertEqual(held, before)


if __name__ == "__main__":
    unittest.main()
