"""Point 3: the main guarantees, over the whole program, on drawn rules, sums, plans, rotas and rosters."""

import unittest
from copy import deepcopy
from random import Random

from swaprings.barriers import barrier_for, table_for
from swaprings.changes import Change
from swaprings.checker import first_fault
from swaprings.choices import cheapest_choice, choices, rule_with
from swaprings.claims import decide, require_claim
from swaprings.errors import InvalidClaim, NoOrder, Unreachable
from swaprings.filling import filled, spoiled_sums
from swaprings.limits import least_of, most_of
from swaprings.orders import is_order, least_order, stuck_steps
from swaprings.plans import cheapest_roster, first_barrier, row_fits
from swaprings.prices import cheapest, least_price
from swaprings.rings import bare_rings, crew
from swaprings.rosters import Roster
from swaprings.rounds import fewest_rounds, pieces, rounds, tables_of
from swaprings.rules import steps_of
from swaprings.tables import price_of_table, sums_of
from swaprings.texts import format_plan, format_rule, format_table, parse_plan, parse_rule, parse_table
from swaprings.thresholds import are_joined, parted
from swaprings.ways import calm_way, reached, turned, walked, way_between
from tests.claim_samples import KINDS, MAKERS
from tests.samples import (
    BOTH, EMPTY, FULL, LATE, SIX, STEEP, drawn_sums, prices_by_pair, random_people, random_plan, random_rota,
    random_rules, random_table, reached_by_words, rosters_reached, round_rule, tables_of_people, tables_with,
)

MOST = 10 ** 30
RULES = [LATE, SIX, STEEP, EMPTY, BOTH, FULL, round_rule(4), round_rule(5)] + random_rules(260, 70, (2, 3, 4, 5))


class Orders(unittest.TestCase):
    def test_an_order_or_a_stuck_set_never_both(self):
        seen = set()
        for rule in RULES:
            order, stuck = least_order(rule), stuck_steps(rule)
            self.assertEqual(order is None, stuck != ())
            verdict, _, paper = decide(("order", rule))
            self.assertEqual(verdict, "broken" if stuck else "shown")
            if stuck:
                self.assertLessEqual({row[:2] for row in paper}, set(steps_of(rule)))
            else:
                self.assertTrue(is_order(rule, paper))
                self.assertEqual(bare_rings(rule), ())
            seen.add(verdict)
        self.assertEqual(seen, {"shown", "broken"})

    def test_by_an_order_filling_is_best_and_calm_ways_lead_there(self):
        random, seen = Random(261), 0
        for rule in RULES:
            order = least_order(rule)
            for people in (2, 5, MOST):
                sums = drawn_sums(random, rule, people)
                table = table_for(rule, sums)
                if order is None or table is None:
                    continue
                best, left = filled(rule, order, sums)
                self.assertFalse(any(left[0] + left[1]))
                self.assertEqual(price_of_table(rule, best), least_price(rule, sums))
                price = price_of_table(rule, table)
                way = calm_way(rule, order, table)
                for ring, times in way:
                    table = turned(rule, table, ring, times)
                    self.assertEqual(len(ring), 2)
                    self.assertLessEqual(price_of_table(rule, table), price)
                    price = price_of_table(rule, table)
                self.assertEqual(table, best)
                seen += way != ()
        self.assertGreater(seen, 20)

    def test_what_is_no_order_goes_wrong_for_two_people(self):
        random, seen = Random(262), 0
        for rule in RULES:
            steps = tuple(random.sample(steps_of(rule), len(steps_of(rule))))
            sums = spoiled_sums(rule, steps)
            self.assertEqual(sums is None, is_order(rule, steps))
            if sums is not None:
                table, left = filled(rule, steps, sums)
                self.assertEqual(sum(sums[0]), 2)
                tables = [other for other in tables_with(rule, sums)]
                prices = [price_of_table(rule, other) for other in tables]
                self.assertTrue(any(left[0]) or price_of_table(rule, table) > min(prices))
                self.assertNotEqual(tables, [])
                seen += 1
        self.assertGreater(seen, 30)


class Rings(unittest.TestCase):
    def test_joined_exactly_if_no_bare_ring_parts_them(self):
        seen = set()
        for rule in [rule for rule in RULES if len(rule[1]) <= 9]:
            for people in (1, 2, 3, 4):
                tables = tables_of_people(rule, people)[:150]
                for most in (2, 3, 4):
                    joined = are_joined(rule, people, most)
                    self.assertEqual(joined, not any(most < len(ring) <= people for ring in bare_rings(rule)))
                    self.assertEqual(decide(("joined", rule, people, most))[0], "shown" if joined else "broken")
                    if joined:
                        for table in tables[:6]:
                            self.assertEqual(list(reached(rule, table, most)), sorted(tables_with(rule, sums_of(table))))
                    else:
                        table, other = parted(rule, people, most)
                        self.assertEqual(sums_of(table), sums_of(other))
                        self.assertNotIn(other, reached_by_words(rule, table, most))
                        self.assertEqual(decide(("way", rule, table, other, most))[0], "broken")
                    seen.add(joined)
        self.assertEqual(seen, {True, False})

    def test_a_crew_joins_all_tables_of_very_many(self):
        random = Random(263)
        for rule in RULES:
            table = random_table(random, rule, MOST)
            other = cheapest(rule, sums_of(table))
            way = way_between(rule, table, other, crew(rule))
            self.assertEqual(walked(rule, table, way), other)
            total = Change.between(table, table)
            for ring, times in way:
                total = total + Change.of(ring, rule[0], times=times)
            self.assertEqual(total, Change.between(table, other))
            self.assertEqual(total.applied(rule, table), other)


class Claims(unittest.TestCase):
    def test_exactly_one_verdict_is_accepted(self):
        random = Random(264)
        for kind in KINDS:
            for _ in range(25):
                claim, truth = MAKERS[kind](random)
                verdict, told, paper = decide(claim)
                self.assertEqual((verdict, told), ("shown" if truth else "broken", claim))
                self.assertIsNone(first_fault((verdict, claim, paper)))
                self.assertIsNotNone(first_fault(("broken" if truth else "shown", claim, paper)))
                self.assertIsNone(require_claim(claim))

    def test_they_tell_what_the_functions_tell(self):
        random, seen = Random(265), set()
        for rule in RULES:
            sums = drawn_sums(random, rule, random.choice((1, 4, MOST)))
            least = least_price(rule, sums)
            claims = [("table", rule, sums), ("price", rule, sums, least), ("crew", rule, crew(rule))]
            for step in steps_of(rule)[:3]:
                claims.append(("most", rule, sums, step, most_of(rule, sums, step)))
                claims.append(("least", rule, sums, step, least_of(rule, sums, step)))
            for claim in claims[1:]:
                self.assertEqual(decide(claim)[0], "shown")
            self.assertEqual(decide(claims[0])[0] == "shown", barrier_for(rule, sums) is None)
            seen.add(least is None)
            options = ((0, 1, 1, 2), (1, 0, None, 1), (1, 1, -3, 4))
            choice = cheapest_choice(rule, options)
            cost = None if choice is None else sum(options[index][3] for index in choice)
            self.assertEqual(decide(("mend", rule, options, cost))[0], "shown")
            if choice is None:
                self.assertTrue(all(stuck_steps(rule_with(rule, options, told)) for told in choices(options)))
        self.assertEqual(seen, {True, False})

    def test_plans_and_rotas(self):
        random, seen = Random(266), set()
        for _ in range(60):
            plan = random_plan(random, random.choice((2, 3, 4)), random.choice((1, 4, MOST)), chance=85)
            roster = cheapest_roster(plan)
            self.assertEqual(decide(("plan", plan))[0] == "shown", roster is not None)
            self.assertEqual(roster is None, first_barrier(plan) is not None)
            row = tuple(random.randrange(plan[1][0][0]) for _ in plan[0])
            self.assertEqual(decide(("row", plan, row))[0] == "shown", row_fits(plan, row))
            seen.add((roster is None, row_fits(plan, row)))
            plan, rota = random_rota(random, 3, random.randrange(1, 6), random.choice((2, 7, 40)))
            fewest, _ = fewest_rounds(rota)
            self.assertEqual(rounds(fewest), len(pieces(plan, rota)))
            self.assertEqual(tables_of(plan, fewest), tables_of(plan, rota))
            self.assertEqual(decide(("rounds", plan, rota, rounds(fewest)))[0], "shown")
        self.assertEqual(len(seen), 3)


class Rosters(unittest.TestCase):
    def allowed(self, roster, rules):
        for row in roster.rows():
            for day, rule in enumerate(rules):
                self.assertIn((row[day], row[day + 1]), prices_by_pair(rule))

    def test_settle_wish_and_claims(self):
        random, seen = Random(267), set()
        for _ in range(60):
            shifts = random.choice((2, 3, 4))
            rules, rows = random_people(random, shifts, 2, random.choice((2, 3, 4)), random.choice((20, 50, 90)))
            together = max(2, *[crew(rule) for rule in rules])
            roster = Roster(rules, rows, together=together)
            absent = tuple(sorted(random.sample(range(len(rows)), random.choice((0, 0, 1)))))
            for person in absent:
                roster.sit_out(person)
            taking = [person for person in range(len(rows)) if person not in absent]
            found = rosters_reached(rules, rows, taking, together)
            for person in taking:
                for shift in range(shifts):
                    can = roster.can_have(person, 2, shift)
                    self.assertEqual(can, any(told[person][2] == shift for told in found))
                    claim = ("have", rules, rows, absent, person, 2, shift)
                    self.assertEqual(decide(claim)[0], "shown" if can else "broken")
                    seen.add(can)
                    again = Roster(rules, rows, together=together)
                    for other in absent:
                        again.sit_out(other)
                    if can:
                        for day, people in again.wish(person, 2, shift):
                            self.assertTrue(len(people) <= together and not set(people) & set(absent))
                        self.assertEqual(again[person, 2], shift)
                    else:
                        with self.assertRaises(Unreachable):
                            again.wish(person, 2, shift)
                    self.allowed(again, rules)
                    self.assertIn(again.rows(), found)
            price = roster.price()
            try:
                deeds = roster.settle()
            except NoOrder as error:
                self.assertIsNone(least_order(rules[error.day]))
                self.assertEqual(roster.rows(), rows)
                continue
            self.assertLessEqual(roster.price(), price)
            self.allowed(roster, rules)
            self.assertTrue(all(len(people) == 2 for _, people in deeds))
            # The least price that those who take part can have, of all rosters that they can reach.
            prices = [Roster(rules, told).price() for told in found]
            self.assertEqual(roster.price(), min(prices))
        self.assertEqual(seen, {True, False})


class Texts(unittest.TestCase):
    def test_what_is_written_is_read_back(self):
        random = Random(268)
        for rule in RULES:
            self.assertEqual(parse_rule(format_rule(rule)), rule)
            table = random_table(random, rule, MOST)
            self.assertEqual(parse_table(format_table(table)), table)
            plan = random_plan(random, rule[0], 5)
            self.assertEqual(parse_plan(format_plan(plan)), plan)


class Arguments(unittest.TestCase):
    def test_claims_stay(self):
        random = Random(269)
        for kind in KINDS:
            for _ in range(6):
                claim, _ = MAKERS[kind](random)
                kept = deepcopy(claim)
                certificate = decide(claim)
                again = deepcopy(certificate)
                self.assertIsNone(first_fault(certificate))
                self.assertEqual((claim, certificate), (kept, again))
                self.assertEqual(decide(kept), certificate)

    def test_claims_of_lists_stay(self):
        for value in ([1, [2]], ("order", [2, [[0, 0, 0]]]), ("plan", ([1], {"a": []}))):
            kept = deepcopy(value)
            with self.assertRaises(InvalidClaim):
                require_claim(value)
            self.assertEqual(value, kept)


if __name__ == "__main__":
    unittest.main()
