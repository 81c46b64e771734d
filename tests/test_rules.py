"""Point 4 and Stage 1: rules."""

import unittest
from copy import deepcopy

from swaprings.errors import InvalidRule
from swaprings.rules import flipped, price_of, require_rule, steps_of, unpriced
from tests.samples import EMPTY, FULL, LATE, SIX, STEEP, odd_values, prices_by_pair, random_rules

RULES = [LATE, SIX, STEEP, EMPTY, FULL, (2, ()), (5, ())] + random_rules(1, 40, (2, 3, 4, 5))

WRONG = [
    (None, None), (True, None), (2, None), ("ab", None), ((), None), ((2,), None), ((2, (), ()), None),
    ([2, ()], None), ({0: 2, 1: ()}, None), ([], None),
    ((1, ()), ("shifts",)), ((6, ()), ("shifts",)), ((0, ()), ("shifts",)), ((-2, ()), ("shifts",)),
    ((True, ()), ("shifts",)), ((False, ()), ("shifts",)), (("2", ()), ("shifts",)), ((None, ()), ("shifts",)),
    (((2,), ()), ("shifts",)), (([2], ()), ("shifts",)), ((10 ** 79, ()), ("shifts",)),
    ((2, []), ("steps",)), ((2, None), ("steps",)), ((2, ""), ("steps",)), ((2, {}), ("steps",)), ((2, 0), ("steps",)),
    ((2, [(0, 0, 0)]), ("steps",)), ((2, True), ("steps",)),
    ((2, ([0, 0, 0],)), ("step", 0)), ((2, ((0, 0),)), ("step", 0)), ((2, ((0, 0, 0, 0),)), ("step", 0)),
    ((2, (None,)), ("step", 0)), ((2, ("000",)), ("step", 0)), ((2, ({},)), ("step", 0)), ((2, (0, 0, 0)), ("step", 0)),
    ((2, ((0, 0, 100),)), ("step", 0)), ((2, ((0, 0, -100),)), ("step", 0)), ((2, ((0, 0, 10 ** 79),)), ("step", 0)),
    ((2, ((0, 0, None),)), ("step", 0)), ((2, ((0, 0, True),)), ("step", 0)), ((2, ((0, 0, False),)), ("step", 0)),
    ((2, ((0, 0, "0"),)), ("step", 0)), ((2, ((0, 0, (0,)),)), ("step", 0)),
    ((2, ((True, 0, 0),)), ("step", 0)), ((2, ((0, False, 0),)), ("step", 0)), ((2, ((0, True, 0),)), ("step", 0)),
    ((2, ((2, 0, 0),)), ("step", 0)), ((2, ((0, 2, 0),)), ("step", 0)), ((2, ((-1, 0, 0),)), ("step", 0)),
    ((2, ((0, -1, 0),)), ("step", 0)), ((5, ((5, 0, 0),)), ("step", 0)), ((2, ((None, 0, 0),)), ("step", 0)),
    ((2, (([], {}, 0),)), ("step", 0)), ((2, (((0, 0), 0, 0),)), ("step", 0)),
    ((2, ((0, 0, 0), (0, 0, 0))), ("step", 1)), ((2, ((0, 0, 0), (0, 0, 1))), ("step", 1)),
    ((2, ((0, 1, 0), (0, 0, 0))), ("step", 1)), ((2, ((1, 0, 0), (0, 1, 0))), ("step", 1)),
    ((2, ((0, 0, 5), (0, 0, 6), (1, 1, 0))), ("step", 1)), ((2, ((0, 0, 0), (0, 1, 0), (1, 2, 0))), ("step", 2)),
    ((2, ((0, 0, 0), (1, 1, 0), (0, 1, 0))), ("step", 2)),
]

TWO_FAULTS = [
    (["2", None], None), ((1, []), ("shifts",)), ((True, ((0, 0),)), ("shifts",)), ((None, None), ("shifts",)),
    ((6, ((5, 5, 100),)), ("shifts",)), ((2, [None]), ("steps",)), ((2, (None, None)), ("step", 0)),
    ((2, ((0, 1, 0), (0, 0, 0), None)), ("step", 1)), ((2, ((0, 1, 0), (0, 1, 100))), ("step", 1)),
    ((2, ((0, 1, 0), (0, 0), (0, 0, 0))), ("step", 1)),
]


class RequireRule(unittest.TestCase):
    def test_rules_are_returned_themselves(self):
        for rule in RULES:
            self.assertIs(require_rule(rule), rule)

    def test_bounds(self):
        for rule in [(2, ((0, 0, -99), (1, 1, 99))), (5, ((0, 0, 99), (4, 4, -99))), (3, ((2, 2, 0),))]:
            self.assertIs(require_rule(rule), rule)

    def test_wrong_parts(self):
        for value, part in WRONG + TWO_FAULTS:
            with self.assertRaises(InvalidRule, msg=repr(value)) as caught:
                require_rule(value)
            self.assertEqual(caught.exception.part, part, repr(value))

    def test_steps_too_many_or_out_of_order_anywhere(self):
        steps = FULL[1]
        for t in range(1, len(steps)):
            swapped = steps[:t - 1] + (steps[t], steps[t - 1]) + steps[t + 1:]
            with self.assertRaises(InvalidRule) as caught:
                require_rule((5, swapped))
            self.assertEqual(caught.exception.part, ("step", t))

    def test_any_value_gets_its_error_and_stays(self):
        for value in odd_values() + [(2, value) for value in odd_values()] + [(2, (value,)) for value in odd_values()]:
            before = deepcopy(value)
            try:
                self.assertIs(require_rule(value), value)
            except InvalidRule:
                pass
            self.assertEqual(value, before)


class Rules(unittest.TestCase):
    def test_steps_of(self):
        for rule in RULES:
            self.assertEqual(steps_of(rule), tuple(sorted(prices_by_pair(rule))))

    def test_price_of(self):
        for rule in RULES:
            prices = prices_by_pair(rule)
            for i in range(rule[0]):
                for j in range(rule[0]):
                    self.assertEqual(price_of(rule, i, j), prices.get((i, j)))

    def test_a_price_of_zero_is_no_barred_pair(self):
        self.assertEqual((price_of(SIX, 0, 0), price_of(SIX, 0, 2), price_of(LATE, 1, 1)), (0, None, 5))

    def test_unpriced(self):
        self.assertEqual(unpriced(LATE), (2, ((0, 0, 0), (0, 1, 0), (1, 0, 0), (1, 1, 0))))
        for rule in RULES:
            self.assertEqual(unpriced(rule), (rule[0], tuple((i, j, 0) for i, j, _ in rule[1])))
            self.assertEqual(steps_of(unpriced(rule)), steps_of(rule))

    def test_flipped(self):
        self.assertEqual(flipped((2, ((0, 1, 7), (1, 0, -3), (1, 1, 2)))), (2, ((0, 1, -3), (1, 0, 7), (1, 1, 2))))
        for rule in RULES:
            there = flipped(rule)
            self.assertIs(require_rule(there), there)
            self.assertEqual(prices_by_pair(there), {(j, i): price for i, j, price in rule[1]})
            self.assertEqual(flipped(there), rule)

    def test_without_steps(self):
        self.assertEqual((steps_of(EMPTY), unpriced(EMPTY), flipped(EMPTY)), ((), EMPTY, EMPTY))

    def test_arguments_by_name(self):
        self.assertEqual(require_rule(value=SIX), SIX)
        self.assertEqual(steps_of(rule=STEEP), ((0, 0), (1, 0), (1, 1)))
        self.assertEqual(price_of(j=1, rule=LATE, i=0), 1)
        self.assertEqual(price_of(j=0, i=1, rule=STEEP), 0)
        self.assertEqual(unpriced(rule=STEEP), STEEP)
        self.assertEqual(flipped(rule=STEEP), (2, ((0, 0, 0), (0, 1, 0), (1, 1, 0))))


if __name__ == "__main__":
    unittest.main()
