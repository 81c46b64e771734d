"""Point 15 and Stage 11: options, choices, and the cheapest one that gives an order."""

import types
import unittest
from copy import deepcopy
from itertools import combinations, product
from random import Random

from swaprings.choices import cheapest_choice, choices, require_options, rule_with
from swaprings.errors import InvalidOptions
from swaprings.orders import least_order
from swaprings.rules import require_rule
from tests.samples import EMPTY, FULL, LATE, SIX, odd_values, prices_by_pair, random_rules

OPTION = (0, 1, 5, 3)
CELLS = list(product(range(3), repeat=2))
# Only the step (1, 1) more gives this rule an order: without it each step has a four against it.
SQUARE_LESS = (3, ((0, 0, 0), (0, 1, 0), (1, 0, 0), (1, 2, 0), (2, 1, 0), (2, 2, 0)))


def choices_by_words(options):
    found = [
        chosen for many in range(len(options) + 1) for chosen in combinations(range(len(options)), many)
        if all(options[k][:2] != options[l][:2] for k, l in combinations(chosen, 2))
    ]
    return sorted(found, key=lambda chosen: (sum(options[k][3] for k in chosen), chosen))


def rule_by_words(rule, options, choice):
    prices = prices_by_pair(rule)
    for k in choice:
        i, j, price, _ = options[k]
        if price is None:
            prices.pop((i, j), None)
        else:
            prices[i, j] = price
    return rule[0], tuple((i, j, prices[i, j]) for i, j in sorted(prices))


def random_options(random, shifts, many, pairs=None):
    pairs = pairs or list(product(range(shifts), repeat=2))
    return tuple(
        random.choice(pairs) + (random.choice((None, -99, -1, 0, 0, 1, 99)), random.choice((0, 1, 1, 2, 5, 99)))
        for _ in range(many)
    )


class RequireOptions(unittest.TestCase):
    def refused(self, rule, value):
        with self.assertRaises(InvalidOptions) as caught:
            require_options(rule, value)
        return caught.exception.index

    def test_right_ones_are_returned(self):
        right = [
            (OPTION,), (OPTION,) * 6, ((0, 0, -99, 0), (4, 4, 99, 99)), ((1, 1, None, 0),), ((1, 1, None, 99), OPTION),
        ]
        for options in right:
            self.assertIs(require_options(FULL, options), options)
        self.assertIs(require_options(EMPTY, right[0]), right[0])

    def test_none_and_seven(self):
        for value in ((), (OPTION,) * 7, [OPTION], (OPTION for _ in range(1)), {0: OPTION}, None, "abc"):
            self.assertIsNone(self.refused(SIX, value))
        self.assertIsNone(self.refused(SIX, ("wrong",) * 7))

    def test_each_part(self):
        wrong = [
            None, 5, "0150", [0, 1, 5, 3], (), (0, 1, 5), (0, 1, 5, 3, 0), (3, 1, 5, 3), (0, 3, 5, 3), (-1, 1, 5, 3),
            (0, -1, 5, 3), (True, 1, 5, 3), (0, True, 5, 3), (0, 1, True, 3), (0, 1, False, 3), (0, 1, 5, True),
            (0, 1, 5, False), (0, 1, 100, 3), (0, 1, -100, 3), (0, 1, 5, -1), (0, 1, 5, 100), (0, 1, 5, None),
            (None, 1, 5, 3), (0, None, 5, 3), ("0", 1, 5, 3), (0, 1, "5", 3), (0, 1, 5, "3"), ((0,), 1, 5, 3),
            (0, 1, (), 3), (0, 1, 10 ** 79, 3), (0, 1, 5, 10 ** 79),
        ]
        for option in wrong:
            for place in range(6):
                value = (OPTION,) * place + (option,) + (OPTION,) * (5 - place)
                self.assertEqual(self.refused(SIX, value), place, option)
            self.assertEqual(self.refused(SIX, (OPTION, option, None, ())), 1)

    def test_the_shifts_are_those_of_the_rule(self):
        self.assertEqual(self.refused(LATE, (OPTION, (0, 2, 0, 0))), 1)
        self.assertEqual(require_options(SIX, (OPTION, (0, 2, 0, 0)))[1], (0, 2, 0, 0))

    def test_any_value(self):
        for value in odd_values():
            told = self.refused(SIX, value)
            self.assertEqual(told, 0 if isinstance(value, tuple) and 1 <= len(value) <= 6 else None)
            self.assertEqual(self.refused(SIX, (OPTION, value)), 1)
            self.assertEqual(self.refused(SIX, (value, OPTION)), 0)
            for place in range(4):
                option = OPTION[:place] + (value,) + OPTION[place + 1:]
                if not (isinstance(value, int) and not isinstance(value, bool) and 0 <= value <= 2) \
                        and (place, value) not in ((2, None), (2, -1)):
                    self.assertEqual(self.refused(SIX, (option,)), 0, (place, value))


class Choices(unittest.TestCase):
    def test_it_is_a_generator(self):
        self.assertIsInstance(choices((OPTION,)), types.GeneratorType)

    def test_all_subsets_by_cost_then_as_tuples(self):
        random = Random(151)
        for _ in range(300):
            options = random_options(random, random.choice((2, 3, 5)), random.randrange(1, 7))
            self.assertEqual(list(choices(options)), choices_by_words(options), options)

    def test_none_has_two_for_one_pair(self):
        options = ((0, 1, 5, 3), (0, 1, None, 3), (1, 0, 2, 3))
        self.assertEqual(list(choices(options)), [(), (0,), (1,), (2,), (0, 2), (1, 2)])
        self.assertEqual(list(choices((OPTION,) * 6)), [()] + [(k,) for k in range(6)])

    def test_dear_ones_stand_behind_many_cheap_ones(self):
        options = ((0, 0, 0, 99), (0, 1, 0, 0), (1, 0, 0, 1))
        told = [(), (1,), (1, 2), (2,), (0,), (0, 1), (0, 1, 2), (0, 2)]
        self.assertEqual(list(choices(options)), told)

    def test_six_of_unlike_pairs(self):
        options = tuple((k // 3, k % 3, 0, 99) for k in range(6))
        told = list(choices(options))
        self.assertEqual((len(told), told[0], told[-1]), (64, (), (0, 1, 2, 3, 4, 5)))


class RuleWith(unittest.TestCase):
    def test_a_new_step_another_price_and_bars(self):
        options = ((0, 1, 7, 1), (1, 0, -99, 1), (0, 0, None, 1), (0, 1, None, 1), (1, 1, 99, 1))
        steep = (2, ((0, 0, 0), (1, 0, 0), (1, 1, 0)))
        told = {
            (): steep, (0,): (2, ((0, 0, 0), (0, 1, 7), (1, 0, 0), (1, 1, 0))),
            (1,): (2, ((0, 0, 0), (1, 0, -99), (1, 1, 0))), (2,): (2, ((1, 0, 0), (1, 1, 0))), (3,): steep,
            (0, 1, 2, 4): (2, ((0, 1, 7), (1, 0, -99), (1, 1, 99))),
        }
        for choice, rule in told.items():
            self.assertEqual(rule_with(steep, options, choice), rule)

    def test_as_the_words_tell(self):
        random = Random(152)
        for rule in random_rules(153, 120, (2, 3, 4, 5)):
            options = random_options(random, rule[0], random.randrange(1, 7))
            for choice in choices_by_words(options):
                told = rule_with(rule, options, choice)
                self.assertEqual(told, rule_by_words(rule, options, choice))
                require_rule(told)

    def test_all_steps_barred(self):
        options = tuple((i, j, None, 0) for i in range(2) for j in range(2))
        self.assertEqual(rule_with(LATE, options, (0, 1, 2, 3)), (2, ()))


class CheapestChoice(unittest.TestCase):
    def check(self, rule, options):
        told = cheapest_choice(rule, options)
        right = [choice for choice in choices_by_words(options) if least_order(rule_by_words(rule, options, choice))
                 is not None]
        self.assertEqual(told, right[0] if right else None, (rule, options))
        return told

    def test_an_order_by_a_step_more(self):
        dear = (0, 1, 5, 9)
        for step in [(0, 2), (1, 1), (2, 0)]:
            option = step + (0, 4)
            for rule in (SIX, SQUARE_LESS):
                self.check(rule, (dear, option, (0, 0, 3, 2)))
        self.assertEqual(self.check(SIX, ((0, 2, 0, 5), (1, 0, 0, 7))), (0,))

    def test_an_order_by_a_step_less(self):
        self.assertEqual(self.check(SIX, ((0, 0, None, 3), (0, 1, None, 2), (0, 2, 0, 3))), (1,))

    def test_an_order_by_a_price(self):
        # All steps are allowed, so only prices bar an order.
        random, seen = Random(154), 0
        for _ in range(3000):
            rule = (3, tuple((i, j, random.choice((0, 1))) for i in range(3) for j in range(3)))
            if least_order(rule) is None:
                options = tuple((i, j, random.choice((0, 1)), 5) for i, j in random.sample(CELLS, 6))
                seen += self.check(rule, options) is not None
        self.assertGreater(seen, 20)

    def test_rules_that_have_one_already(self):
        self.assertEqual(cheapest_choice(LATE, ((0, 0, None, 0), (0, 1, 9, 0))), ())
        self.assertEqual(cheapest_choice(EMPTY, (OPTION,)), ())

    def test_more_steps_can_take_an_order_away(self):
        path = (3, tuple(step for step in SIX[1] if step[:2] != (2, 0)))
        self.assertIsNotNone(least_order(path))
        self.assertIsNone(least_order(rule_with(path, ((2, 0, 0, 1),), (0,))))

    def test_none_of_them_gives_one(self):
        self.assertIsNone(self.check(SIX, ((0, 0, 5, 1),)))
        self.assertIsNone(self.check(SIX, ((0, 0, 5, 1), (0, 0, -5, 1), (1, 1, 9, 0))))

    def test_against_all_choices(self):
        random, seen = Random(156), {"none": 0, "empty": 0, "one": 0, "more": 0}
        without = [rule for rule in random_rules(157, 1500, (3, 4)) if least_order(rule) is None]
        for rule in without + random_rules(161, 60, (2, 3, 4)):
            told = self.check(rule, random_options(random, rule[0], random.randrange(1, 7)))
            seen["none" if told is None else ("empty", "one", "more")[min(len(told), 2)]] += 1
        self.assertGreater(min(seen.values()), 10, seen)

    def test_five_shifts_and_six_options(self):
        random = Random(158)
        for rule in random_rules(159, 6, (5,)) + [FULL]:
            self.check(rule, random_options(random, 5, 6))


class Arguments(unittest.TestCase):
    def test_by_name_in_any_order(self):
        options = ((0, 2, 0, 5), (0, 0, None, 3))
        self.assertEqual(require_options(value=options, rule=SIX), options)
        self.assertEqual(list(choices(options=options)), [(), (1,), (0,), (0, 1)])
        self.assertEqual(len(rule_with(choice=(0,), options=options, rule=SIX)[1]), 7)
        self.assertEqual(cheapest_choice(options=options, rule=SIX), (1,))

    def test_they_stay(self):
        options = [(0, 2, 0, 5), (0, 0, None, 3), {"a": [1]}]
        before = deepcopy(options)
        with self.assertRaises(InvalidOptions):
            require_options(SIX, options)
        right = tuple(options[:2])
        self.assertEqual(cheapest_choice(SIX, right), cheapest_choice(SIX, right))
        self.assertEqual(list(choices(right)), list(choices(right)))
        self.assertEqual((options, right), (before, tuple(before[:2])))


if __name__ == "__main__":
    unittest.main()
