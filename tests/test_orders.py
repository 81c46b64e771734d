"""Points 3 (orders and stuck sets) and 6, and Stage 3: orders and good lines."""

import unittest
from copy import deepcopy
from itertools import combinations, permutations
from random import Random

from swaprings.orders import (
    are_good_lines, four_against, good_lines, is_order, least_order, may_go_first, stuck_steps,
)
from swaprings.rules import steps_of, unpriced
from swaprings.tables import price_of_table, sums_of
from tests.samples import (
    CLIMBING, EMPTY, FALLING, FULL, LATE, SIX, STEEP, all_unpriced, are_good_by_words, filled_by_words, fours,
    is_order_by_words, odd_values, pairs_of_lines, random_rules, tables_of_people,
)

# The four (1, 1) against (0, 0) is told by its price alone: one more makes it, the same does not.
EVEN = (2, ((0, 0, 2), (0, 1, 3), (1, 0, 4), (1, 1, 5)))
DEAR = (2, ((0, 0, 3), (0, 1, 3), (1, 0, 4), (1, 1, 5)))
CHEAP = (2, ((0, 0, 1), (0, 1, 3), (1, 0, 4), (1, 1, 5)))
# No pair is barred, so that the prices alone make the stuck set.
TANGLED = (3, ((0, 0, 0), (0, 1, 0), (0, 2, 0), (1, 0, 0), (1, 1, 1), (1, 2, 2), (2, 0, 0), (2, 1, 2), (2, 2, 1)))
RULES = [LATE, SIX, STEEP, EMPTY, FULL, EVEN, DEAR, CHEAP, TANGLED, CLIMBING, FALLING, (2, ()), (5, ())]
RANDOM_RULES = random_rules(7, 120, (2, 3, 4, 5))


def some_of(random, steps):
    chosen = [step for step in steps if random.randrange(3)]
    random.shuffle(chosen)
    return tuple(chosen)


class Fours(unittest.TestCase):
    def test_prices_decide(self):
        steps = ((0, 0), (0, 1), (1, 0), (1, 1))
        self.assertEqual([four_against(EVEN, steps, step) for step in steps], [None, None, None, None])
        self.assertEqual([four_against(DEAR, steps, step) for step in steps], [(1, 1), None, None, (0, 0)])
        self.assertEqual([four_against(CHEAP, steps, step) for step in steps], [None, (1, 0), (0, 1), None])

    def test_barred_pairs_decide(self):
        self.assertEqual(four_against(STEEP, ((0, 0), (1, 0), (1, 1)), (1, 0)), (0, 1))
        self.assertEqual(four_against(SIX, steps_of(SIX), (0, 0)), (2, 1))

    def test_neither_of_the_two_needs_to_be_among_the_steps(self):
        self.assertEqual(four_against(DEAR, ((0, 1), (1, 0)), (0, 0)), (1, 1))
        self.assertIsNone(four_against(DEAR, ((0, 0), (1, 1)), (0, 0)))
        self.assertIsNone(four_against(DEAR, ((0, 0), (0, 1), (1, 1)), (0, 0)))
        self.assertIsNone(four_against(DEAR, ((0, 0), (1, 0), (1, 1)), (0, 0)))
        self.assertIsNone(four_against(DEAR, (), (0, 0)))

    def test_the_least_four_is_told(self):
        barred = (3, ((0, 0, 0), (0, 1, 0), (0, 2, 0), (1, 0, 0), (2, 0, 0)))
        self.assertEqual(four_against(barred, ((2, 0), (0, 2), (1, 0), (0, 1), (0, 0)), (0, 0)), (1, 1))
        self.assertEqual(four_against(barred, ((2, 0), (0, 2), (0, 1)), (0, 0)), (2, 1))

    def test_as_the_words_tell(self):
        random = Random(8)
        for rule in RULES + RANDOM_RULES:
            steps = steps_of(rule)
            for among in (steps, some_of(random, steps), some_of(random, steps)):
                for step in steps:
                    self.assertEqual(four_against(rule, among, step), min(fours(rule, among, step), default=None))
                free = tuple(sorted(step for step in among if not fours(rule, among, step)))
                self.assertEqual(may_go_first(rule, among), free)

    def test_may_go_first(self):
        self.assertEqual(may_go_first(DEAR, ((1, 1), (1, 0), (0, 1), (0, 0))), ((0, 1), (1, 0)))
        self.assertEqual(may_go_first(DEAR, ((1, 1), (0, 0))), ((0, 0), (1, 1)))
        self.assertEqual(may_go_first(SIX, steps_of(SIX)), ())
        self.assertEqual(may_go_first(SIX, ()), ())


class Orders(unittest.TestCase):
    def test_rules_with_an_order(self):
        self.assertEqual(least_order(LATE), ((0, 1), (0, 0), (1, 0), (1, 1)))
        self.assertEqual(least_order(STEEP), ((0, 0), (1, 0), (1, 1)))
        self.assertEqual(least_order(FULL), steps_of(FULL))
        self.assertEqual(least_order(EVEN), ((0, 0), (0, 1), (1, 0), (1, 1)))
        self.assertEqual(least_order(FALLING)[:4], ((0, 0), (0, 1), (0, 2), (0, 3)))
        self.assertEqual(least_order(CLIMBING)[:3], ((0, 4), (0, 3), (0, 2)))
        for rule in (LATE, STEEP, FULL, EVEN, DEAR, CHEAP, CLIMBING, FALLING):
            self.assertTrue(is_order(rule, least_order(rule)))
            self.assertEqual(stuck_steps(rule), ())

    def test_rules_with_a_stuck_set(self):
        self.assertIsNone(least_order(SIX))
        self.assertEqual(stuck_steps(SIX), steps_of(SIX))
        self.assertIsNone(least_order(TANGLED))
        self.assertEqual(stuck_steps(TANGLED), steps_of(TANGLED))
        self.assertEqual(least_order(unpriced(TANGLED)), steps_of(TANGLED))

    def test_a_stuck_set_of_fewer_than_all_steps(self):
        more = (4, SIX[1] + ((3, 3, 7),))
        self.assertEqual(stuck_steps(more), steps_of(SIX))
        self.assertIsNone(least_order(more))

    def test_without_steps(self):
        for rule in (EMPTY, (2, ()), (5, ())):
            self.assertEqual((least_order(rule), stuck_steps(rule)), ((), ()))
            self.assertIs(is_order(rule, ()), True)
            self.assertIs(is_order(rule, ((0, 0),)), False)
            self.assertIs(is_order(rule, []), False)

    def test_an_order_or_a_stuck_set_never_both(self):
        seen = {True: 0, False: 0}
        for rule in RULES + RANDOM_RULES:
            order, stuck = least_order(rule), stuck_steps(rule)
            seen[order is None] += 1
            self.assertEqual(order is None, stuck != ())
            self.assertEqual(stuck, tuple(sorted(stuck)))
            self.assertTrue(all(fours(rule, stuck, step) for step in stuck))
            if order is not None:
                self.assertTrue(is_order_by_words(rule, order))
                self.assertEqual(tuple(sorted(order)), steps_of(rule))
                self.assertIs(is_order(rule, order), True)
        self.assertGreater(min(seen.values()), 10)

    def test_the_greatest_stuck_set_of_all_subsets(self):
        for rule in [LATE, SIX, STEEP, DEAR, TANGLED] + random_rules(9, 25, (2, 3)):
            steps, union = steps_of(rule), set()
            for many in range(1, len(steps) + 1):
                for chosen in combinations(steps, many):
                    if all(fours(rule, chosen, step) for step in chosen):
                        union.update(chosen)
            self.assertEqual(stuck_steps(rule), tuple(sorted(union)))

    def test_the_least_of_all_orders(self):
        for rule in [LATE, SIX, STEEP, DEAR, CHEAP, EVEN] + random_rules(10, 30, (2, 3)):
            steps = steps_of(rule)
            if len(steps) <= 6:
                orders = [line for line in permutations(steps) if is_order_by_words(rule, line)]
                self.assertEqual(least_order(rule), min(orders, default=None))
                for line in permutations(steps):
                    self.assertIs(is_order(rule, line), line in orders)

    def test_any_step_that_may_go_first_leaves_the_same(self):
        random = Random(11)
        for rule in [SIX, TANGLED, CLIMBING] + RANDOM_RULES[:40]:
            left = steps_of(rule)
            free = may_go_first(rule, left)
            while free:
                taken = random.choice(free)
                left = tuple(step for step in left if step != taken)
                free = may_go_first(rule, left)
            self.assertEqual(left, stuck_steps(rule))

    def test_by_an_order_filling_is_cheapest_and_by_nothing_else(self):
        for rule in [LATE, STEEP, DEAR, CHEAP, EVEN, SIX] + random_rules(12, 15, (2, 3)):
            steps = steps_of(rule)
            if len(steps) > 5:
                continue
            cheapest = {}
            for table in [table for people in (1, 2, 3) for table in tables_of_people(rule, people)]:
                price = price_of_table(rule, table)
                cheapest[sums_of(table)] = min(price, cheapest.get(sums_of(table), price))
            few = {sums: price for sums, price in cheapest.items() if sum(sums[0]) == 2}
            for line in permutations(steps):
                told = cheapest if is_order(rule, line) else few
                best = all(filled_by_words(rule, line, sums) == price for sums, price in told.items())
                self.assertIs(best, is_order(rule, line), (rule, line))

    def test_values_that_are_no_orders(self):
        order = least_order(LATE)
        for value in [
            None, (), [], list(order), order[1:], order[:-1], order + order[:1], order + ((0, 0),),
            order[:3] + (order[0],), order[:3] + ((2, 0),), order[:3] + ((1, -1),), order[:3] + ((1, 1, 5),),
            order[:3] + ([1, 1],), order[:3] + ((True, 1),), order[:3] + ((1, True),), order[:3] + (None,),
            ((0, True),) + order[1:], ((False, 1),) + order[1:], tuple(reversed(order)), steps_of(LATE),
            LATE[1], {step: True for step in order}, "order", tuple([list(step) for step in order]),
            order[:3] + (("1", "1"),), order[:3] + ((1, None),), order[:3] + ({},), 4, True,
        ]:
            self.assertIs(is_order(LATE, value), False, repr(value))
        self.assertIs(is_order(LATE, order), True)
        self.assertIs(is_order(LATE, ((1, 0), (0, 1), (1, 1), (0, 0))), True)

    def test_a_step_left_out_twice_or_barred(self):
        self.assertIs(is_order(STEEP, ((0, 0), (1, 0), (1, 1))), True)
        self.assertIs(is_order(STEEP, ((1, 1), (1, 0), (0, 0))), True)
        self.assertIs(is_order(STEEP, ((1, 0), (0, 0), (1, 1))), False)
        self.assertIs(is_order(STEEP, ((0, 0), (1, 1))), False)
        self.assertIs(is_order(STEEP, ((0, 0), (0, 0), (1, 1))), False)
        self.assertIs(is_order(STEEP, ((0, 0), (1, 0), (1, 1), (1, 1))), False)
        self.assertIs(is_order(STEEP, ((0, 0), (0, 1), (1, 1))), False)
        self.assertIs(is_order(STEEP, ((0, 0), (0, 1), (1, 0), (1, 1))), False)

    def test_any_value_is_answered_and_stays(self):
        for value in odd_values() + [((0, 1), (0, 0), (1, 0), value) for value in odd_values()]:
            before = deepcopy(value)
            self.assertIs(is_order(LATE, value), False)
            self.assertIs(is_order(EMPTY, value), value == () and isinstance(value, tuple))
            self.assertEqual(value, before)

    def test_arguments_by_name(self):
        steps = steps_of(LATE)
        self.assertEqual(four_against(step=(0, 0), steps=steps, rule=LATE), (1, 1))
        self.assertEqual(may_go_first(steps=steps, rule=LATE), ((0, 1), (1, 0)))
        self.assertEqual(least_order(rule=LATE), least_order(LATE))
        self.assertEqual(stuck_steps(rule=SIX), stuck_steps(SIX))
        self.assertIs(is_order(value=least_order(LATE), rule=LATE), True)
        self.assertIsNone(good_lines(rule=SIX))
        self.assertIs(are_good_lines(value=((0, 1), (1, 0)), rule=LATE), True)


class GoodLines(unittest.TestCase):
    def check(self, rule):
        lines = good_lines(rule)
        self.assertEqual(lines is None, least_order(unpriced(rule)) is None, rule)
        if lines is not None:
            self.assertTrue(isinstance(lines, tuple) and len(lines) == 2)
            for line in lines:
                self.assertTrue(isinstance(line, tuple))
                self.assertEqual(sorted(line), list(range(rule[0])))
            self.assertTrue(are_good_by_words(rule, *lines), rule)
            self.assertIs(are_good_lines(rule, lines), True)
        return lines

    def test_rules_with_and_without(self):
        for rule in RULES:
            self.check(rule)
        self.assertIsNone(good_lines(SIX))
        self.assertIsNotNone(good_lines(TANGLED))
        self.assertIsNone(good_lines((4, SIX[1] + ((3, 0, 0), (3, 1, 0), (3, 2, 0)))))

    def test_random_rules_of_two_to_five_shifts(self):
        found = [self.check(rule) for rule in RANDOM_RULES + random_rules(13, 90, (4, 5))]
        self.assertGreater(len([lines for lines in found if lines is None]), 20)
        self.assertGreater(len([lines for lines in found if lines is not None]), 20)

    def test_a_rule_with_an_order_has_good_lines(self):
        for rule in RULES + RANDOM_RULES:
            if least_order(rule) is not None:
                self.assertIsNotNone(good_lines(rule))

    def test_all_rules_of_two_and_three_shifts(self):
        for shifts in (2, 3):
            for rule in all_unpriced(shifts):
                self.check(rule)

    def test_are_good_lines_of_all_pairs(self):
        for rule in [LATE, STEEP, SIX, TANGLED, EMPTY] + random_rules(14, 30, (2, 3)):
            good = 0
            for pair in pairs_of_lines(rule[0]):
                told = are_good_by_words(rule, *pair)
                good = good + told
                self.assertIs(are_good_lines(rule, pair), told)
            self.assertEqual(good > 0, good_lines(rule) is not None)

    def test_the_pairs_of_a_rule(self):
        self.assertIs(are_good_lines(STEEP, ((0, 1), (0, 1))), True)
        self.assertIs(are_good_lines(STEEP, ((1, 0), (1, 0))), True)
        self.assertIs(are_good_lines(STEEP, ((0, 1), (1, 0))), True)
        self.assertIs(are_good_lines(STEEP, ((1, 0), (0, 1))), False)

    def test_values_that_are_no_good_lines(self):
        for value in [
            None, (), [], ((0, 1),), ((0, 1), (0, 1), (0, 1)), [(0, 1), (0, 1)], ([0, 1], (0, 1)), ((0, 1), [0, 1]),
            ((0, 1), (0,)), ((0, 1, 2), (0, 1)), ((0, 0), (0, 1)), ((0, 1), (1, 1)), ((0, 2), (0, 1)), ((-1, 0), (0, 1)),
            ((False, True), (0, 1)), ((0, 1), (0, True)), ((0, 1), (False, 1)), ("01", "01"), ((0, 1), "01"),
            ((0, 1), None), ((0, 1), ("0", "1")), ((0, 1), ((0,), (1,))), {0: (0, 1), 1: (0, 1)}, (0, 1), 3, True,
            ((0, 1), ([], {})), ((None, 1), (0, 1)),
        ]:
            self.assertIs(are_good_lines(LATE, value), False, repr(value))
        self.assertIs(are_good_lines(LATE, ((1, 0), (0, 1))), True)

    def test_any_value_is_answered_and_stays(self):
        for value in odd_values() + [((0, 1), value) for value in odd_values()]:
            before = deepcopy(value)
            good = isinstance(value, tuple) and len(value) == 2 and all(
                isinstance(line, tuple) and [repr(shift) for shift in line] in (["0", "1"], ["1", "0"])
                for line in value
            )
            self.assertIs(are_good_lines(LATE, value), good)
            self.assertEqual(value, before)


if __name__ == "__main__":
    unittest.main()
