"""Point 19 and Stage 15: claims, and the certificates that decide them."""

import unittest
from copy import deepcopy
from random import Random

from swaprings.checker import first_fault
from swaprings.claims import decide, require_claim
from swaprings.errors import InvalidClaim
from tests.claim_samples import KINDS, MAKERS
from tests.samples import EMPTY, FULL, LATE, SIX, STEEP, odd_values, random_rota, round_rule

MOST = 10 ** 30
PAIR = ((1, 1), (1, 1))
TABLE, OTHER = ((1, 0), (0, 1)), ((0, 1), (1, 0))
OPTIONS = ((0, 2, 0, 5), (0, 0, None, 3))
PLAN = (((1, 1), (2, 0), (1, 1)), (LATE, LATE))
ENDLESS, ROTA = (((1, 1), (2, 0)), (LATE, LATE)), (((0, 0), (1, 0)), (0, 1))
ROWS = ((0, 0, 1), (1, 1, 0))
RIGHT = {
    "order": ("order", LATE), "crew": ("crew", SIX, 3), "joined": ("joined", SIX, 2, 2),
    "way": ("way", LATE, TABLE, OTHER, 2), "table": ("table", LATE, PAIR), "price": ("price", LATE, PAIR, 2),
    "most": ("most", LATE, PAIR, (1, 1), 1), "least": ("least", LATE, PAIR, (1, 1), 0), "mend": ("mend", SIX, OPTIONS, 3),
    "plan": ("plan", PLAN), "row": ("row", PLAN, (0, 0, 1)), "rounds": ("rounds", ENDLESS, ROTA, 1),
    "have": ("have", (LATE, LATE), ROWS, (1,), 0, 1, 0),
}
NUMBERS = [None, -1, True, False, "2", (2,), [2], {}, 10 ** 79, -10 ** 79]
WRONG_RULES = [None, 5, (), (2,), [2, ()], (1, ()), (6, ()), (True, ()), (2, []), (2, ((0, 2, 0),)), (2, ((0, 0, 100),))]
WRONG_SUMS = [None, (), ((1, 1),), [(1, 1), (1, 1)], ((1, 1), (1, 2)), ((1, 1), [1, 1]), ((1, 1, 0), (1, 1, 0)),
              ((MOST, 1), (MOST, 1)), ((-1, 1), (0, 0)), ((True, 1), (1, 1)), ((1, 1), (2.0, 0))]
WRONG_TABLES = [None, (), ((1, 1),), [(1, 0), (0, 1)], ((1, 0), [0, 1]), ((1, 0), (0, True)), ((2, 0), (0, -1)),
                ((1, 0, 0), (0, 1, 0), (0, 0, 0)), ((MOST + 1, 0), (0, 0))]


def with_part(claim, place, value):
    return claim[:place] + (value,) + claim[place + 1:]


class RequireClaim(unittest.TestCase):
    def refused(self, claim):
        with self.assertRaises(InvalidClaim, msg=repr(claim)[:300]) as caught:
            require_claim(claim)
        self.assertEqual(vars(caught.exception), {})
        with self.assertRaises(InvalidClaim):
            decide(claim)
        self.assertEqual(first_fault(("shown", claim, ())), ("claim",))

    def taken(self, claim):
        self.assertIsNone(require_claim(claim))
        verdict, told, paper = decide(claim)
        self.assertIs(told, claim)
        self.assertIsNone(first_fault((verdict, told, paper)))
        return verdict

    def refuse_each(self, kind, place, values):
        for value in values:
            self.refused(with_part(RIGHT[kind], place, value))

    def test_right_ones(self):
        for kind in KINDS:
            self.taken(RIGHT[kind])

    def test_other_kinds_and_lengths(self):
        for kind, claim in RIGHT.items():
            for value in (claim[:-1], claim + (0,), claim + (None,), list(claim), (kind.upper(),) + claim[1:],
                          (kind + " ",) + claim[1:], ([kind],) + claim[1:], claim[1:], (None,) + claim[1:]):
                self.refused(value)
            for other in KINDS:
                if {kind, other} != {"most", "least"} and kind != other and (kind, other) != ("order", "plan"):
                    self.refused((other,) + claim[1:])
        self.refused(("way", LATE, TABLE, OTHER, 2, 2))
        self.refused(("pieces", ENDLESS, ROTA, 1))
        self.refused(())
        self.refused("order")

    def test_any_value(self):
        for value in odd_values():
            self.refused(value)
            self.refused((value,))
            for kind, claim in RIGHT.items():
                for place in range(len(claim)):
                    if place == 0 or not self.may_stand(kind, place, value):
                        self.refused(with_part(claim, place, value))

    def may_stand(self, kind, place, value):
        """Whether one of the odd values may stand at this place of the claim."""
        if value is None:
            return (kind, place) in (("price", 3), ("most", 4), ("least", 4), ("mend", 3))
        if value in ((0, 0), (0, 1)):
            return (kind, place) in (("most", 3), ("least", 3))
        if isinstance(value, int) and not isinstance(value, bool):
            least, most = {
                ("crew", 2): (2, 5), ("joined", 2): (0, MOST), ("joined", 3): (2, 5), ("way", 4): (2, 5),
                ("price", 3): (-10 ** 33, 10 ** 33), ("most", 4): (0, MOST), ("least", 4): (0, MOST),
                ("mend", 3): (0, 594), ("rounds", 3): (1, 40), ("have", 4): (0, 0), ("have", 5): (0, 2), ("have", 6): (0, 1),
            }.get((kind, place), (1, 0))
            return least <= value <= most
        return (kind, place, value) in (("have", 3, ()), ("have", 2, ((0, 0, 0),)))

    def test_rules(self):
        for kind in ("order", "crew", "joined", "way", "table", "price", "most", "least", "mend"):
            self.refuse_each(kind, 1, WRONG_RULES)
        for kind in ("way", "table", "price", "most", "least"):
            self.refuse_each(kind, 1, [SIX, EMPTY])

    def test_numbers_at_their_bounds(self):
        for many in range(2, 6):
            self.taken(("crew", SIX, many))
            self.taken(("joined", SIX, 5, many))
            self.taken(("way", LATE, TABLE, OTHER, many))
        self.refuse_each("crew", 2, NUMBERS + [0, 1, 6])
        self.refuse_each("joined", 3, NUMBERS + [0, 1, 6])
        self.refuse_each("way", 4, NUMBERS + [0, 1, 6])
        for people in (0, 1, MOST):
            self.taken(("joined", SIX, people, 2))
        self.refuse_each("joined", 2, NUMBERS + [MOST + 1])
        for price in (None, 0, 10 ** 33, -10 ** 33):
            self.taken(("price", LATE, PAIR, price))
        self.refuse_each("price", 3, [True, False, "2", (2,), [2], 10 ** 33 + 1, -10 ** 33 - 1])
        for kind in ("most", "least"):
            for many in (None, 0, 1, MOST):
                self.taken((kind, LATE, PAIR, (1, 1), many))
            self.refuse_each(kind, 4, [-1, True, False, "2", (2,), [2], MOST + 1])
        for cost in (None, 0, 594):
            self.taken(("mend", SIX, OPTIONS, cost))
        self.refuse_each("mend", 3, [-1, True, False, "2", (2,), [2], 595])
        for many in (1, 40):
            self.taken(("rounds", ENDLESS, ROTA, many))
        self.refuse_each("rounds", 3, NUMBERS + [0, 41])

    def test_sums(self):
        for kind in ("table", "price", "most", "least"):
            self.refuse_each(kind, 2, WRONG_SUMS)
        self.taken(("table", LATE, ((MOST, 0), (0, MOST))))
        self.taken(("price", LATE, ((MOST, 0), (0, MOST)), MOST))
        self.taken(("most", LATE, ((MOST, 0), (0, MOST)), (0, 1), MOST))

    def test_tables_of_ways(self):
        self.refuse_each("way", 2, WRONG_TABLES)
        self.refuse_each("way", 3, WRONG_TABLES)
        self.refused(("way", LATE, TABLE, ((1, 1), (0, 0)), 2))
        self.refused(("way", LATE, TABLE, ((2, 0), (0, 1)), 2))
        self.refused(("way", STEEP, TABLE, OTHER, 2))
        self.taken(("way", LATE, ((3, 0), (0, 3)), ((0, 3), (3, 0)), 2))
        self.refused(("way", LATE, ((4, 0), (0, 3)), ((1, 3), (3, 0)), 2))
        self.refused(("way", LATE, ((7, 0), (0, 0)), ((7, 0), (0, 0)), 2))
        self.taken(("way", LATE, ((0, 0), (0, 0)), ((0, 0), (0, 0)), 2))

    def test_steps(self):
        for kind in ("most", "least"):
            self.refuse_each(kind, 3, [None, (), (1,), (1, 1, 0), [1, 1], (1, 2), (2, 1), (-1, 0), (True, 1), (1, True), "11"])
            self.refused((kind, STEEP, ((1, 1), (1, 1)), (0, 1), 0))
            self.taken((kind, STEEP, ((1, 1), (1, 1)), (1, 0), 0))

    def test_options(self):
        self.refuse_each("mend", 2, [None, (), [OPTIONS[0]], (OPTIONS[0],) * 7, ((0, 3, 0, 5),), ((0, 2, 0, 100),),
                                     ((0, 2, 100, 5),), ((0, 2, 0),), ((0, 2, True, 5),), ((0, 2, 0, None),)])
        self.taken(("mend", SIX, (OPTIONS[0],) * 6, 5))

    def test_plans_rows_and_rotas(self):
        for kind in ("plan", "row"):
            self.refuse_each(kind, 1, [None, (), PLAN[:1], (PLAN[0], PLAN[1][:1]), (PLAN[0], (LATE, SIX)), list(PLAN),
                                       (((1, 1), (2, 1), (1, 1)), (LATE, LATE))])
        self.refuse_each("row", 2, [None, (), (0, 0), (0, 0, 0, 0), [0, 0, 1], (0, 0, 2), (0, True, 0), (-1, 0, 0), "001"])
        for row in ((0, 0, 0), (1, 1, 1)):
            self.taken(("row", PLAN, row))
        self.taken(("row", ENDLESS, (0, 0)))
        self.refused(("rounds", PLAN, ROTA, 1))
        self.refuse_each("rounds", 1, [None, PLAN, (((2, 0), (2, 0)), (LATE, LATE)), (((1, 1), (2, 0)), (LATE, (2, ())))])
        self.refuse_each("rounds", 2, [None, (), ROTA[:1], list(ROTA), (ROTA[0], (0, 0)), (((0, 0), (0, 0)), (0, 1)),
                                       (((0, 0), (1, True)), (0, 1)), (ROTA[0], (False, True))])

    def test_rosters_of_people(self):
        self.refuse_each("have", 1, [None, (), LATE, [LATE, LATE], (LATE,), (LATE,) * 3, (LATE, SIX), (LATE, (2, ())),
                                     (LATE, None), (LATE, STEEP)])
        self.refuse_each("have", 2, [None, (), [ROWS[0]], ROWS * 6 + ROWS[:1], ((0, 0, 1), (1, 1)), ((0, 0, 2), ROWS[1]),
                                     ((0, 0, True), ROWS[1])])
        self.taken(("have", (LATE, LATE), ROWS * 6, (1,), 0, 1, 0))
        self.taken(("have", (LATE,) * 6, ((0,) * 7,) * 2, (1,), 0, 6, 0))
        self.refused(("have", (LATE,) * 7, ((0,) * 8,) * 2, (1,), 0, 6, 0))
        self.refuse_each("have", 3, [None, [1], (2,), (-1,), (0,), (0, 1), (1, 1), (1, 0), (True,), 1, "1"])
        self.refused(("have", (LATE, LATE), ROWS * 2, (3, 1), 0, 1, 0))
        self.taken(("have", (LATE, LATE), ROWS * 2, (1, 3), 0, 1, 0))
        self.taken(("have", (LATE, LATE), ROWS, (), 0, 1, 0))
        self.refuse_each("have", 4, NUMBERS + [1, 2])
        self.refuse_each("have", 5, NUMBERS + [3])
        self.refuse_each("have", 6, NUMBERS + [2])
        for day in (0, 1, 2):
            for shift in (0, 1):
                self.taken(("have", (LATE, LATE), ROWS, (1,), 0, day, shift))


class Decide(unittest.TestCase):
    def check(self, claim, truth):
        kept = deepcopy(claim)
        certificate = decide(claim)
        self.assertIsInstance(certificate, tuple)
        self.assertEqual(len(certificate), 3)
        verdict, told, paper = certificate
        self.assertEqual(verdict, "shown" if truth else "broken", claim)
        self.assertIs(told, claim)
        self.assertIsNone(first_fault(certificate), certificate)
        self.assertEqual(claim, kept)
        other = "broken" if truth else "shown"
        self.assertIsNotNone(first_fault((other, claim, paper)), certificate)
        return paper

    def test_each_kind(self):
        random = Random(240)
        for kind in KINDS:
            seen = {True: 0, False: 0}
            for _ in range(120):
                claim, truth = MAKERS[kind](random)
                self.check(claim, truth)
                seen[truth] += 1
            self.assertGreater(min(seen.values()), 7, (kind, seen))

    def test_crews_and_joins(self):
        for shifts in (3, 4, 5):
            rule = round_rule(shifts)
            for many in range(2, 6):
                self.check(("crew", rule, many), many == shifts)
                for people in range(7):
                    self.check(("joined", rule, people, many), people < shifts or shifts <= many)
        for many in range(2, 6):
            self.check(("crew", EMPTY, many), many == 2)
            self.check(("crew", FULL, many), many == 2)
            self.check(("joined", EMPTY, MOST, many), True)

    def test_orders(self):
        self.assertEqual(self.check(("order", EMPTY), True), ())
        self.assertEqual(len(self.check(("order", SIX), False)), 6)

    def test_many_people(self):
        sums = ((MOST // 3, MOST - MOST // 3), (1, MOST - 1))
        least = 1 + MOST // 3 + 5 * (MOST - MOST // 3 - 1)
        for price in (least - 1, least, least + 1, None):
            self.check(("price", LATE, sums, price), price == least)
        for many in (0, 1, 2, None):
            self.check(("most", LATE, sums, (0, 0), many), many == 1)
            self.check(("least", LATE, sums, (0, 0), many), many == 0)
        right = MOST - MOST // 3
        for many in (right - 1, right, right + 1):
            self.check(("most", LATE, sums, (1, 1), many), many == right)
            self.check(("least", LATE, sums, (1, 1), many), many == right - 1)

    def test_no_table(self):
        sums = ((2, 1), (1, 2))
        self.check(("table", STEEP, sums), False)
        for number in (None, 0, 1):
            self.check(("price", STEEP, sums, number), number is None)
            for step in ((0, 0), (1, 0), (1, 1)):
                self.check(("most", STEEP, sums, step, number), number is None)
                self.check(("least", STEEP, sums, step, number), number is None)

    def test_choices(self):
        for cost in (None, 0, 2, 3, 4, 594):
            self.check(("mend", SIX, OPTIONS, cost), cost == 3)
            self.check(("mend", SIX, ((0, 0, 5, 1),) * 6, cost), cost is None)
            self.check(("mend", LATE, ((0, 0, 5, 1), (1, 1, None, 0)), cost), cost == 0)
        six = tuple((k // 3, k % 3, 0, 99) for k in range(6))
        full = (5, tuple((i, j, (7 * i * i + 3 * j * i + j) % 5) for i in range(5) for j in range(5)))
        self.check(("mend", full, six, None), decide(("mend", full, six, None))[0] == "shown")
        self.check(("mend", full, six, 594), False)

    def test_rounds_of_forty(self):
        random = Random(241)
        for _ in range(10):
            plan, rota = random_rota(random, 5, 7, 40, random.choice((1, 3, 5)))
            right = [many for many in range(1, 41) if decide(("rounds", plan, rota, many))[0] == "shown"]
            self.assertEqual(len(right), 1)
            for many in (1, right[0], 40):
                self.check(("rounds", plan, rota, many), many == right[0])

    def test_great_rosters_of_people(self):
        random = Random(242)
        rules = (round_rule(5),) * 6
        seen = set()
        for _ in range(20):
            rows = []
            for _ in range(12):
                row = [random.randrange(5)]
                for _ in range(6):
                    row.append((row[-1] + random.randrange(2)) % 5)
                rows.append(tuple(row))
            claim = ("have", rules, tuple(rows), (3, 7), 0, 6, random.randrange(5))
            verdict, _, paper = decide(claim)
            seen.add(verdict)
            self.assertIsNone(first_fault((verdict, claim, paper)))
        self.assertEqual(seen, {"shown", "broken"})

    def test_every_day_of_one_person(self):
        rows = ((0, 0), (1, 1), (2, 2))
        for shift in range(3):
            self.check(("have", (SIX,), rows, (), 0, 1, shift), shift != 2)
            self.check(("have", (SIX,), rows, (1,), 0, 1, shift), shift == 0)
            self.check(("have", (SIX,), rows, (), 0, 0, shift), shift == 0)


class Arguments(unittest.TestCase):
    def test_by_name(self):
        self.assertIsNone(require_claim(claim=RIGHT["order"]))
        self.assertEqual(decide(claim=RIGHT["order"])[:2], ("shown", RIGHT["order"]))

    def test_they_stay(self):
        wrong = ["order", [2, {"a": []}]]
        before = deepcopy(wrong)
        with self.assertRaises(InvalidClaim):
            decide(wrong)
        self.assertEqual(wrong, before)
        for claim in RIGHT.values():
            self.assertEqual(decide(claim), decide(claim))


if __name__ == "__main__":
    unittest.main()
