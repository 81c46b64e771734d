"""Point 17 and Stage 13: rotas, their rounds and pieces, and how few rounds there can be."""

import unittest
from copy import deepcopy
from random import Random

from swaprings.errors import InvalidRota, NotTogether
from swaprings.rounds import fewest_rounds, pieces, require_rota, rota_changed, rounds, tables_of
from swaprings.tables import require_table, sums_of
from tests.samples import (
    LATE, SIX, STEEP, odd_values, pieces_by_words, random_rota, rounds_by_words, tables_by_words,
)

PLAN = (((1, 1), (2, 0)), (LATE, LATE))
ROTA = (((0, 0), (1, 0)), (0, 1))
WIDE = (((1, 1, 1), (1, 1, 1)), (
    (3, ((0, 0, 0), (0, 2, 0), (1, 1, 0), (2, 0, 0))), (3, ((0, 0, 0), (0, 2, 0), (1, 1, 0), (2, 2, 0), (2, 0, 0))),
))


def drawn_rotas(seed, many, sizes=(1, 2, 3, 5, 8, 13, 40)):
    random = Random(seed)
    return [
        random_rota(random, random.choice((2, 3, 4, 5)), random.randrange(1, 8), random.choice(sizes),
                    random.choice((None, None, 1, 2, 4)))
        for _ in range(many)
    ]


class RequireRota(unittest.TestCase):
    def refused(self, plan, value):
        with self.assertRaises(InvalidRota) as caught:
            require_rota(plan, value)
        return caught.exception.part

    def test_right_ones_are_returned(self):
        self.assertIs(require_rota(PLAN, ROTA), ROTA)
        for plan, rota in drawn_rotas(170, 150):
            self.assertIs(require_rota(plan, rota), rota)

    def test_no_pair_or_wrong_numbers(self):
        rows, follow = ROTA
        wrong = [None, 5, "ab", (), (rows,), (rows, follow, ()), [rows, follow], (list(rows), follow), ((), ()),
                 (rows, list(follow)), (rows, follow[:1]), (rows[:1], follow), (rows, {0: 0, 1: 1}), (rows, "01"),
                 (((0, 0),) * 41, tuple(range(41)))]
        for value in wrong:
            self.assertIsNone(self.refused(PLAN, value), value)

    def test_forty_rows_and_one_more(self):
        rows, follow = ((0, 0),) * 41, tuple(range(41))
        for many in (39, 40):
            rota = (rows[:many], follow[:many])
            self.assertIs(require_rota((((many, 0),) * 2, (LATE, LATE)), rota), rota)
        self.assertIsNone(self.refused((((41, 0),) * 2, (LATE, LATE)), (rows, follow)))

    def test_each_row(self):
        wrong = [None, 5, (), (0,), (0, 0, 0), [0, 0], "00", (0, 2), (2, 0), (-1, 0), (0, -1), (True, 0), (0, False),
                 (0, None), ((0,), 0)]
        for row in wrong:
            self.assertEqual(self.refused(PLAN, ((row, (1, 0)), (0, 1))), ("row", 0), row)
            self.assertEqual(self.refused(PLAN, (((0, 0), row), (0, 1))), ("row", 1), row)
            self.assertEqual(self.refused(PLAN, ((row, row), (0, 5))), ("row", 0), row)

    def test_follow(self):
        for follow in [(0, 0), (1, 1), (0, 2), (-1, 0), (1, -1), (0, None), (False, True), (0, True), ("0", "1"),
                       ((0,), 1), (0, [1])]:
            self.assertEqual(self.refused(PLAN, (ROTA[0], follow)), ("follow",), follow)
        self.assertEqual(self.refused((((1, 1), (2, 0)), (STEEP, STEEP)), (((1, 0), (0, 1)), (0, 0))), ("follow",))

    def test_each_step(self):
        steep = (((1, 1), (1, 1)), (STEEP, STEEP))
        self.assertEqual(self.refused(steep, (((0, 1), (1, 0)), (0, 1))), ("step", 0, 0))
        self.assertEqual(self.refused(steep, (((1, 0), (0, 1)), (0, 1))), ("step", 0, 1))
        self.assertEqual(self.refused(steep, (((1, 0), (0, 1)), (1, 0))), ("step", 1, 0))
        # From the last day the step leads to the first shift of the row that follows.
        self.assertEqual(self.refused(steep, (((0, 0), (1, 1)), (1, 0))), ("step", 0, 1))
        self.assertEqual(self.refused(steep, (((1, 1), (0, 0)), (1, 0))), ("step", 1, 1))
        self.assertEqual(require_rota(steep, (((1, 1), (0, 0)), (0, 1))), (((1, 1), (0, 0)), (0, 1)))
        one = (((1, 1),), (STEEP,))
        self.assertEqual(self.refused(one, (((0,), (1,)), (1, 0))), ("step", 0, 0))
        # A step that is barred is told ahead of days with other numbers.
        self.assertEqual(self.refused((((2, 0), (2, 0)), (STEEP, STEEP)), (((1, 1), (0, 1)), (0, 1))), ("step", 1, 0))

    def test_each_need(self):
        self.assertEqual(self.refused(PLAN, (((0, 0), (0, 0)), (0, 1))), ("need", 0))
        self.assertEqual(self.refused(PLAN, (((0, 1), (1, 0)), (0, 1))), ("need", 1))
        self.assertEqual(self.refused(PLAN, (((0, 0),), (0,))), ("need", 0))
        self.assertEqual(self.refused(PLAN, (((0, 0), (1, 0), (0, 0)), (0, 1, 2))), ("need", 0))

    def test_bent_rotas(self):
        random, seen = Random(171), set()
        for plan, (rows, follow) in drawn_rotas(172, 200, (2, 3, 5)):
            bent = [list(row) for row in rows]
            r, t = random.randrange(len(rows)), random.randrange(len(rows[0]))
            bent[r][t] = (bent[r][t] + 1) % plan[1][0][0]
            told = self.refused(plan, (tuple(map(tuple, bent)), follow))
            seen.add(told[0])
            if told[0] == "need":
                self.assertEqual(told, ("need", t))
            else:
                before = [r, t - 1] if t else [follow.index(r), len(rows[0]) - 1]
                self.assertIn(list(told[1:]), ([r, t], before))
        self.assertEqual(seen, {"need", "step"})

    def test_any_value(self):
        for value in odd_values():
            told = self.refused(PLAN, value)
            self.assertIn(told, (None, ("row", 0)))
            self.assertIn(self.refused(PLAN, (value, value)), (None, ("row", 0), ("row", 1), ("follow",)))
            if value != (0, 0):
                self.assertEqual(self.refused(PLAN, ((value, (1, 0)), (0, 1)))[0], "row" if value != (0, 1) else "need")
            self.assertIn(self.refused(PLAN, (ROTA[0], (0, value))) if value != 1 else ("follow",), [("follow",)])


class Rounds(unittest.TestCase):
    def test_of_the_example(self):
        self.assertEqual((rounds(ROTA), tables_of(PLAN, ROTA)), (2, (((1, 0), (1, 0)), ((1, 1), (0, 0)))))
        self.assertEqual(tables_of(PLAN, (ROTA[0], (1, 0))), (((1, 0), (1, 0)), ((1, 1), (0, 0))))
        self.assertEqual(rounds((ROTA[0], (1, 0))), 1)
        self.assertEqual(pieces(PLAN, ROTA), (((0, 0), (0, 1), (1, 0)),))

    def test_pieces_without_each_other(self):
        rota = (((0, 0), (1, 1), (2, 2)), (0, 1, 2))
        plan = (((1, 1, 1), (1, 1, 1)), (SIX, SIX))
        self.assertEqual(pieces(plan, rota), (((0, 0), (1, 0)), ((0, 1), (1, 1)), ((0, 2), (1, 2))))
        # Row 0 goes from 0 to 2 and stays there, as row 2 follows it, which goes from 2 to 0 and stays there.
        wide = (((0, 2), (1, 1), (2, 0)), (2, 1, 0))
        self.assertIs(require_rota(WIDE, wide), wide)
        self.assertEqual(pieces(WIDE, wide), (((0, 0), (0, 2), (1, 0), (1, 2)), ((0, 1), (1, 1))))
        # Behind the last day each of the two goes on as it began: they never meet.
        apart = (wide[0], (0, 1, 2))
        self.assertEqual(pieces(WIDE, apart), (((0, 0), (1, 2)), ((0, 1), (1, 1)), ((0, 2), (1, 0))))

    def test_by_words(self):
        seen = set()
        for plan, rota in drawn_rotas(173, 250):
            self.assertEqual(rounds(rota), len(rounds_by_words(rota)))
            self.assertEqual(tables_of(plan, rota), tables_by_words(plan, rota))
            self.assertEqual(pieces(plan, rota), pieces_by_words(plan, rota))
            seen.add(min(len(pieces(plan, rota)), 3))
        self.assertEqual(seen, {1, 2, 3})

    def test_tables_are_a_roster_of_the_plan(self):
        for plan, rota in drawn_rotas(174, 60):
            for t, (rule, table) in enumerate(zip(plan[1], tables_of(plan, rota))):
                require_table(rule, table)
                self.assertEqual(sums_of(table), (plan[0][t], plan[0][(t + 1) % len(plan[0])]))


class RotaChanged(unittest.TestCase):
    def test_of_the_example(self):
        self.assertEqual(rota_changed(ROTA, 1, 0, 1), (((0, 0), (1, 0)), (1, 0)))
        with self.assertRaises(NotTogether):
            rota_changed(ROTA, 0, 0, 1)

    def test_later_days_and_what_follows(self):
        rota = (((0, 1, 2), (2, 1, 0), (0, 0, 0)), (1, 2, 0))
        self.assertEqual(rota_changed(rota, 1, 0, 1), (((0, 1, 0), (2, 1, 2), (0, 0, 0)), (2, 1, 0)))
        self.assertEqual(rota_changed(rota, 0, 2, 0), (((0, 0, 0), (2, 1, 0), (0, 1, 2)), (0, 2, 1)))
        for day, one, other in [(1, 1, 2), (2, 0, 1), (0, 0, 1)]:
            with self.assertRaises(NotTogether):
                rota_changed(rota, day, one, other)

    def test_tables_stay_and_rounds_change_by_one(self):
        random, seen = Random(175), {-1: 0, 1: 0, None: 0}
        for plan, rota in drawn_rotas(176, 200, (2, 3, 5, 13, 40)):
            for _ in range(6):
                day, (one, other) = random.randrange(len(rota[0][0])), random.sample(range(len(rota[0])), 2)
                if rota[0][one][day] != rota[0][other][day]:
                    with self.assertRaises(NotTogether):
                        rota_changed(rota, day, one, other)
                    seen[None] += 1
                    continue
                after = rota_changed(rota, day, one, other)
                require_rota(plan, after)
                self.assertEqual(after, rota_changed(rota, day, other, one))
                self.assertEqual(tables_of(plan, after), tables_of(plan, rota))
                self.assertEqual(rota_changed(after, day, one, other), rota)
                self.assertEqual(after[0][one], rota[0][one][:day + 1] + rota[0][other][day + 1:])
                self.assertEqual(after[1][one], rota[1][other])
                seen[rounds(after) - rounds(rota)] += 1
                rota = after
        self.assertEqual(set(seen), {-1, 1, None})
        self.assertGreater(min(seen.values()), 50)


class FewestRounds(unittest.TestCase):
    def check(self, plan, rota):
        told, changes = fewest_rounds(rota)
        self.assertIsInstance(changes, tuple)
        self.assertLessEqual(len(changes), 40)
        after = rota
        for day, one, other in changes:
            self.assertNotEqual(one, other)
            after = rota_changed(after, day, one, other)
        self.assertEqual(after, told)
        require_rota(plan, told)
        self.assertEqual(tables_of(plan, told), tables_of(plan, rota))
        self.assertEqual(rounds(told), len(pieces_by_words(plan, rota)))
        return len(changes)

    def test_of_the_example(self):
        self.assertEqual(self.check(PLAN, ROTA), 1)

    def test_drawn_rotas(self):
        told = [self.check(plan, rota) for plan, rota in drawn_rotas(177, 250)]
        self.assertIn(0, told)
        self.assertGreater(max(told), 20)

    def test_rows_that_are_alike_each_for_itself(self):
        for many in (1, 2, 39, 40):
            rota = (((0, 1, 0),) * many, tuple(range(many)))
            plan = (((many, 0), (0, many), (many, 0)), (LATE, LATE, LATE))
            self.assertEqual(self.check(plan, rota), many - 1)

    def test_one_great_round(self):
        for many in (1, 2, 40):
            rota = (((0, 1, 0),) * many, tuple((r + 1) % many for r in range(many)))
            plan = (((many, 0), (0, many), (many, 0)), (LATE, LATE, LATE))
            self.assertEqual(self.check(plan, rota), 0)

    def test_forty_rows_in_several_pieces(self):
        full = tuple((i, j, 0) for i in range(5) for j in range(5))
        rows = tuple(((r % 5),) * 7 for r in range(40))
        plan = (((8,) * 5,) * 7, ((5, full),) * 7)
        self.assertEqual(self.check(plan, (rows, tuple(range(40)))), 35)
        self.assertEqual(self.check(plan, (rows, tuple((r + 1) % 40 for r in range(40)))), 0)

    def test_one_day(self):
        full = tuple((i, j, 0) for i in range(3) for j in range(3))
        rota = (((0,), (1,), (2,), (0,), (1,)), (1, 0, 2, 3, 4))
        self.assertEqual(self.check((((2, 2, 1),), ((3, full),)), rota), 2)

    def test_no_changes_lead_to_fewer(self):
        # All rotas to which changes lead, for few rows: none has fewer rounds than there are pieces.
        for plan, rota in drawn_rotas(178, 40, (2, 3, 4)):
            found, waiting = {rota}, [rota]
            while waiting and len(found) < 400:
                current = waiting.pop()
                for day in range(len(current[0][0])):
                    for one in range(len(current[0])):
                        for other in range(one):
                            if current[0][one][day] == current[0][other][day]:
                                after = rota_changed(current, day, one, other)
                                if after not in found:
                                    found.add(after)
                                    waiting.append(after)
            least = min(rounds(one) for one in found)
            self.assertEqual(rounds(fewest_rounds(rota)[0]), least)


class Arguments(unittest.TestCase):
    def test_by_name_in_any_order(self):
        self.assertEqual(require_rota(value=ROTA, plan=PLAN), ROTA)
        self.assertEqual(tables_of(rota=ROTA, plan=PLAN), tables_of(PLAN, ROTA))
        self.assertEqual(rounds(rota=ROTA), 2)
        self.assertEqual(pieces(rota=ROTA, plan=PLAN), pieces(PLAN, ROTA))
        self.assertEqual(rota_changed(other=1, one=0, day=1, rota=ROTA), (((0, 0), (1, 0)), (1, 0)))
        self.assertEqual(fewest_rounds(rota=ROTA), fewest_rounds(ROTA))

    def test_they_stay(self):
        wrong = [[[0, 0], {"a": [1]}], [0, [1]]]
        before = deepcopy((wrong, PLAN, ROTA))
        with self.assertRaises(InvalidRota):
            require_rota(PLAN, wrong)
        with self.assertRaises(NotTogether):
            rota_changed(ROTA, 0, 0, 1)
        for plan, rota in [(PLAN, ROTA)] + drawn_rotas(179, 20):
            kept = deepcopy((plan, rota))

            def told():
                return [rounds(rota), pieces(plan, rota), tables_of(plan, rota), fewest_rounds(rota)]

            self.assertEqual(told(), told())
            self.assertEqual((plan, rota), kept)
        self.assertEqual((wrong, PLAN, ROTA), before)


if __name__ == "__main__":
    unittest.main()
