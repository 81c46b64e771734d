"""Point 21 and Stage 17: rosters of people that live."""

import unittest
from copy import deepcopy
from itertools import permutations, product
from random import Random

from swaprings import errors
from swaprings.prices import least_price
from swaprings.rosters import Roster
from swaprings.tables import price_of_table
from tests.samples import (
    EMPTY, LATE, SIX, STEEP, can_be_handed_round, crew_by_words, handed_round, has_order_by_words, odd_values,
    prices_by_pair, random_people, random_rule, rosters_reached, round_rule, sums_of_rows,
)

RULES, ROWS = (LATE, LATE), ((0, 0, 1), (1, 1, 0))
SQUARE = (2, ((0, 0, 0), (0, 1, 0), (1, 0, 0), (1, 1, 0)))
TURN_OF_SIX = ((SIX,), ((0, 0), (1, 1), (2, 2)))


def error_of(act):
    """The name of the error and its arguments, None if there is none; with what the call returns."""
    try:
        return None, act()
    except Exception as error:
        return (type(error).__name__,) + tuple(vars(error).values()), None


def table_by_words(rules, rows, people, day):
    pairs = [(rows[person][day], rows[person][day + 1]) for person in people]
    shifts = range(rules[0][0])
    return tuple(tuple(pairs.count((i, j)) for j in shifts) for i in shifts)


class Model:
    """A roster of people, read word by word from the document."""

    def __init__(self, rules, rows, together):
        self.rules, self.current, self.together = list(rules), tuple(rows), together
        self.out, self.done, self.undone = set(), [], []

    def taking(self):
        return [person for person in range(len(self.current)) if person not in self.out]

    def whole(self, value, most):
        return type(value) is int and 0 <= value <= most

    def fault(self, rows, day, people):
        if not self.whole(day, len(self.rules) - 1):
            return "UnknownDay", day
        if not isinstance(people, tuple) or len(people) < 2:
            return ("InvalidPeople",)
        for person in people:
            if not self.whole(person, len(rows) - 1):
                return "UnknownPerson", person
        if len(set(people)) < len(people):
            return ("InvalidPeople",)
        for person in people:
            if person in self.out:
                return "Absent", person
        if len(people) > self.together:
            return "TooMany", len(people)
        after = handed_round(rows, day, people)
        for person in people:
            step = after[person][day], after[person][day + 1]
            if step not in prices_by_pair(self.rules[day]):
                return "Barred", step
        return None

    def hand_round(self, day, people):
        fault = self.fault(self.current, day, people)
        if fault is None:
            self.current = handed_round(self.current, day, people)
            self.done.append((day, people))
            self.undone = []
        return fault

    def back(self):
        if not self.done:
            return ("NothingDone",)
        day, people = self.done[-1]
        after = handed_round(self.current, day, people[::-1])
        return self.gone(day, people, after, self.done, self.undone)

    def again(self):
        if not self.undone:
            return ("NothingDone",)
        day, people = self.undone[-1]
        return self.gone(day, people, handed_round(self.current, day, people), self.undone, self.done)

    def gone(self, day, people, after, source, target):
        for person in people:
            step = after[person][day], after[person][day + 1]
            if step not in prices_by_pair(self.rules[day]):
                return "Barred", step
        self.current = after
        target.append(source.pop())
        return None

    def change_rule(self, day, rule):
        if not self.whole(day, len(self.rules) - 1):
            return "UnknownDay", day
        if rule[0] != self.rules[0][0]:
            return ("SizesDiffer",)
        barred = sorted((row[day], row[day + 1]) for row in self.current)
        barred = [step for step in barred if step not in prices_by_pair(rule)]
        if barred:
            return "Barred", barred[0]
        self.rules[day] = rule
        return None

    def add(self, deeds):
        if not isinstance(deeds, tuple) or len(deeds) > 200:
            return "Refused", -1, None
        if not all(isinstance(deed, tuple) and len(deed) == 2 for deed in deeds):
            return "Refused", -1, None
        kept = self.current, list(self.done), self.undone
        for index, (day, people) in enumerate(deeds):
            fault = self.hand_round(day, people)
            if fault is not None:
                self.current, self.done, self.undone = kept
                return "Refused", index, fault[0]
        return None


def drawn(random, most=6, together=None):
    rules, rows = random_people(random, random.choice((2, 3, 4, 5)), random.randrange(1, 5), random.randrange(1, most))
    return rules, rows, together or random.choice((2, 2, 3, 5, 12))


class Creating(unittest.TestCase):
    def refused(self, *told, **named):
        error, _ = error_of(lambda: Roster(*told, **named))
        return error

    def test_right_ones(self):
        for rules, rows in [(RULES, ROWS), ((LATE,), ((0, 0),)), TURN_OF_SIX,
                            ((LATE,) * 6, ((0,) * 7,) * 12)]:
            for together in (2, 3, 12):
                roster = Roster(rules, rows, together=together)
                self.assertEqual((roster.rows(), len(roster), roster.absent(), roster.deeds()), (rows, len(rows), (), ()))

    def test_rules(self):
        for value in (None, 5, (), [LATE], (LATE,) * 7, "a", {0: LATE}):
            self.assertEqual(self.refused(value, ROWS), ("InvalidRules", None))
        for value in (None, 5, (), (2, []), (1, ()), (6, ()), SIX, EMPTY, (2, ((0, 0, 100),)), (True, ()), [2, ()]):
            for place in range(1, 6):
                rules = (LATE,) * place + (value,) + (LATE,) * (5 - place)
                self.assertEqual(self.refused(rules, None, together=None), ("InvalidRules", place))
        self.assertEqual(self.refused((None, LATE), ROWS), ("InvalidRules", 0))
        self.assertEqual(self.refused((SIX, LATE), ROWS), ("InvalidRules", 1))

    def test_rows(self):
        for value in (None, 5, (), [ROWS[0]], ((0, 0, 1),) * 13, "ab", {0: ROWS[0]}):
            self.assertEqual(self.refused(RULES, value, together=99), ("InvalidRow", None))
        wrong = [None, 5, (), (0, 0), (0, 0, 0, 0), [0, 0, 0], "000", (0, 0, 2), (0, -1, 0), (True, 0, 0), (0, 0, None),
                 (0, (0,), 0)]
        for row in wrong:
            for place in range(12):
                rows = (ROWS[0],) * place + (row,) + (None,) * (11 - place)
                self.assertEqual(self.refused(RULES, rows, together=1), ("InvalidRow", place), row)
        self.assertEqual(self.refused((STEEP, LATE), ((0, 0, 1), (0, 1, 0))), ("InvalidRow", 1))
        self.assertEqual(self.refused((LATE, STEEP), ((0, 0, 1), (0, 1, 0))), ("InvalidRow", 0))
        self.assertEqual(self.refused(((2, ()),), ((0, 0),)), ("InvalidRow", 0))

    def test_together(self):
        for value in (None, 1, 0, 13, -2, True, "2", (2,), [2], 10 ** 79):
            self.assertEqual(self.refused(RULES, ROWS, together=value), ("InvalidTogether", value))
        with self.assertRaises(TypeError):
            Roster(RULES, ROWS, 2)

    def test_any_value(self):
        for value in odd_values():
            self.assertIn(self.refused(value, value, together=value)[0], ("InvalidRules",))
            self.assertEqual(self.refused((LATE, value), ROWS), ("InvalidRules", 1))
            if value != ((0, 0, 0),):
                self.assertEqual(self.refused(RULES, value)[0], "InvalidRow")
            self.assertEqual(self.refused(RULES, (ROWS[0], value)), ("InvalidRow", 1))
            if value != 2:
                self.assertEqual(self.refused(RULES, ROWS, together=value), ("InvalidTogether", value))


class Reading(unittest.TestCase):
    def test_places_tables_and_price(self):
        random = Random(230)
        for _ in range(80):
            rules, rows, together = drawn(random, 13)
            roster = Roster(rules, rows, together=together)
            price = 0
            for day, rule in enumerate(rules):
                table = table_by_words(rules, rows, range(len(rows)), day)
                self.assertEqual(roster.table(day), table)
                price += price_of_table(rule, table)
            self.assertEqual(roster.price(), price)
            told = tuple(tuple(roster[p, day] for day in range(len(rules) + 1)) for p in range(len(roster)))
            self.assertEqual(told, rows)

    def test_places_that_there_are_not(self):
        roster = Roster(RULES, ROWS)
        for value in [2, 3, -1, True, False, None, "0", (0,), [0]] + odd_values():
            right = type(value) is int and value in (0, 1)
            if not right:
                self.assertEqual(error_of(lambda: roster[value, 0])[0], ("UnknownPlace", value))
                self.assertEqual(error_of(lambda: roster[value, "x"])[0], ("UnknownPlace", value))
            if not right and not (type(value) is int and value == 2):
                self.assertEqual(error_of(lambda: roster[0, value])[0], ("UnknownPlace", value))
                self.assertEqual(error_of(lambda: roster.table(value))[0], ("UnknownDay", value))
        self.assertEqual(roster[0, 2], 1)
        self.assertEqual(error_of(lambda: roster.table(2))[0], ("UnknownDay", 2))

    def test_it_is_true_and_not_iterated_over(self):
        self.assertTrue(Roster(RULES, ROWS))
        self.assertRaises(TypeError, lambda: list(Roster(RULES, ROWS)))


class Deeds(unittest.TestCase):
    def test_each_error_in_its_order(self):
        roster = Roster((SIX, SIX), ((0, 0, 0), (1, 1, 1), (2, 2, 2), (0, 1, 1)), together=3)
        roster.sit_out(3)
        for day in (2, -1, None, True, "0", [0], 10 ** 79):
            self.assertEqual(error_of(lambda: roster.hand_round(day, None))[0], ("UnknownDay", day))
            self.assertEqual(error_of(lambda: roster.exchange(day, 9, 9))[0], ("UnknownDay", day))
        for people in (None, 5, (), (0,), [0, 1], "01", {0: 1}, (9,)):
            self.assertEqual(error_of(lambda: roster.hand_round(0, people))[0], ("InvalidPeople",))
        for person in (4, -1, None, True, "0", (0,), [0], 10 ** 79):
            self.assertEqual(error_of(lambda: roster.hand_round(0, (3, 3, person, 7)))[0], ("UnknownPerson", person))
            self.assertEqual(error_of(lambda: roster.exchange(0, 3, person))[0], ("UnknownPerson", person))
            self.assertEqual(error_of(lambda: roster.exchange(0, person, 8))[0], ("UnknownPerson", person))
        self.assertEqual(error_of(lambda: roster.hand_round(0, (3, 3)))[0], ("InvalidPeople",))
        self.assertEqual(error_of(lambda: roster.exchange(0, 1, 1))[0], ("InvalidPeople",))
        self.assertEqual(error_of(lambda: roster.hand_round(0, (0, 1, 3, 2)))[0], ("Absent", 3))
        self.assertEqual(error_of(lambda: roster.exchange(0, 0, 3))[0], ("Absent", 3))
        roster.take_part(3)
        self.assertEqual(error_of(lambda: roster.hand_round(0, (0, 1, 3, 2)))[0], ("TooMany", 4))
        self.assertEqual(error_of(lambda: roster.exchange(0, 0, 2))[0], ("Barred", (0, 2)))
        self.assertEqual(error_of(lambda: roster.exchange(0, 2, 0))[0], ("Barred", (0, 2)))
        self.assertEqual(error_of(lambda: roster.exchange(0, 1, 0))[0], ("Barred", (1, 0)))
        self.assertEqual(error_of(lambda: roster.exchange(0, 0, 1))[0], ("Barred", (1, 0)))
        self.assertEqual(error_of(lambda: roster.hand_round(0, (0, 2, 1)))[0], ("Barred", (0, 2)))
        self.assertEqual((roster.rows()[0], roster.deeds()), ((0, 0, 0), ()))
        self.assertIsNone(roster.hand_round(0, (0, 1, 2)))
        self.assertEqual(roster.rows(), ((0, 1, 1), (1, 2, 2), (2, 0, 0), (0, 1, 1)))
        self.assertIsNone(roster.exchange(1, 0, 3))
        self.assertEqual(roster.deeds(), ((0, (0, 1, 2)), (1, (0, 3))))

    def test_later_days_go_with_it(self):
        roster = Roster((SQUARE,) * 3, ((0, 0, 1, 1), (1, 0, 0, 1), (1, 1, 1, 0)), together=3)
        roster.hand_round(1, (2, 0, 1))
        self.assertEqual(roster.rows(), ((0, 0, 0, 1), (1, 0, 1, 0), (1, 1, 1, 1)))

    def test_who_takes_part(self):
        roster = Roster(RULES, ROWS * 3)
        self.assertIsNone(roster.sit_out(4))
        self.assertIsNone(roster.sit_out(1))
        self.assertIsNone(roster.sit_out(4))
        self.assertEqual(roster.absent(), (1, 4))
        self.assertIsNone(roster.take_part(4))
        self.assertIsNone(roster.take_part(0))
        self.assertEqual(roster.absent(), (1,))
        for value in [6, -1, None, True, "1", (1,), [1]] + odd_values():
            if not (type(value) is int and 0 <= value < 6):
                self.assertEqual(error_of(lambda: roster.sit_out(value))[0], ("UnknownPerson", value))
                self.assertEqual(error_of(lambda: roster.take_part(value))[0], ("UnknownPerson", value))
        self.assertEqual((roster.absent(), roster.deeds()), ((1,), ()))

    def test_back_and_again(self):
        roster = Roster(RULES, ROWS)
        self.assertEqual(error_of(roster.back)[0], ("NothingDone",))
        self.assertEqual(error_of(roster.again)[0], ("NothingDone",))
        roster.exchange(0, 0, 1)
        roster.exchange(1, 0, 1)
        after = roster.rows()
        roster.sit_out(0)
        self.assertIsNone(roster.back())
        self.assertIsNone(roster.back())
        self.assertEqual((roster.rows(), roster.deeds()), (ROWS, ()))
        self.assertEqual(error_of(roster.back)[0], ("NothingDone",))
        self.assertIsNone(roster.again())
        self.assertEqual(roster.deeds(), ((0, (0, 1)),))
        self.assertIsNone(roster.again())
        self.assertEqual((roster.rows(), roster.deeds()), (after, ((0, (0, 1)), (1, (0, 1)))))
        self.assertEqual(error_of(roster.again)[0], ("NothingDone",))
        roster.back()
        roster.take_part(0)
        roster.exchange(0, 1, 0)
        self.assertEqual(error_of(roster.again)[0], ("NothingDone",))
        self.assertEqual(roster.deeds(), ((0, (0, 1)), (0, (1, 0))))

    def test_what_does_nothing_keeps_what_was_undone(self):
        roster = Roster((SQUARE,), ((0, 0), (1, 1)))
        roster.exchange(0, 0, 1)
        roster.back()
        self.assertEqual((roster.settle(), roster.wish(0, 1, 0), roster.become(((0, 0), (1, 1)))), ((), (), ()))
        roster += ()
        with self.assertRaises(errors.Refused):
            roster += ((0, (0, 1)), (0, (0, 5)))
        self.assertEqual(error_of(lambda: roster.exchange(0, 1, 1))[0], ("InvalidPeople",))
        roster.again()
        self.assertEqual(roster.deeds(), ((0, (0, 1)),))

    def test_undoing_what_a_new_rule_bars(self):
        roster = Roster((SQUARE,), ((0, 0), (1, 1)))
        roster.exchange(0, 0, 1)
        roster.change_rule(0, (2, ((0, 1, 0), (1, 0, 0))))
        self.assertEqual(error_of(roster.back)[0], ("Barred", (0, 0)))
        roster.change_rule(0, (2, ((0, 0, 0), (0, 1, 0), (1, 0, 0))))
        self.assertEqual(error_of(roster.back)[0], ("Barred", (1, 1)))
        self.assertEqual((roster.rows(), roster.deeds()), (((0, 1), (1, 0)), ((0, (0, 1)),)))
        roster.change_rule(0, SQUARE)
        roster.back()
        roster.change_rule(0, (2, ((0, 0, 0), (1, 1, 0))))
        self.assertEqual(error_of(roster.again)[0], ("Barred", (0, 1)))
        roster.change_rule(0, SQUARE)
        roster.again()
        self.assertEqual(roster.rows(), ((0, 1), (1, 0)))
        # Of three people the first new step that is barred is told, in the deed's own order.
        three = Roster((round_rule(3),), ((0, 0), (1, 1), (2, 2)), together=3)
        three.hand_round(0, (1, 2, 0))
        three.change_rule(0, (3, ((0, 1, 0), (1, 2, 0), (2, 0, 0), (2, 2, 0))))
        self.assertEqual(error_of(three.back)[0], ("Barred", (1, 1)))

    def test_change_rule(self):
        roster = Roster(RULES, ROWS)
        for day in (2, -1, None, True, "0", [0]):
            self.assertEqual(error_of(lambda: roster.change_rule(day, None))[0], ("UnknownDay", day))
        self.assertEqual(error_of(lambda: roster.change_rule(0, None))[0], ("InvalidRule", None))
        self.assertEqual(error_of(lambda: roster.change_rule(0, (2, ((0, 0, 0), (0, 0, 0)))))[0],
                         ("InvalidRule", ("step", 1)))
        self.assertEqual(error_of(lambda: roster.change_rule(0, (6, ())))[0], ("InvalidRule", ("shifts",)))
        self.assertEqual(error_of(lambda: roster.change_rule(0, EMPTY))[0], ("SizesDiffer",))
        self.assertEqual(error_of(lambda: roster.change_rule(0, (2, ())))[0], ("Barred", (0, 0)))
        self.assertEqual(error_of(lambda: roster.change_rule(1, (2, ())))[0], ("Barred", (0, 1)))
        self.assertEqual(error_of(lambda: roster.change_rule(1, STEEP))[0], ("Barred", (0, 1)))
        self.assertEqual(error_of(lambda: roster.change_rule(0, (2, ((0, 0, 0),))))[0], ("Barred", (1, 1)))
        self.assertEqual(roster.price(), 7)
        self.assertIsNone(roster.change_rule(0, STEEP))
        self.assertEqual(roster.price(), 2)
        self.assertEqual(error_of(lambda: roster.exchange(0, 0, 1))[0], ("Barred", (0, 1)))
        for value in odd_values():
            self.assertEqual(error_of(lambda: roster.change_rule(0, value))[0][0], "InvalidRule")


class Adding(unittest.TestCase):
    def add(self, roster, deeds):
        def act():
            nonlocal roster
            kept = roster
            roster += deeds
            self.assertIs(roster, kept)
        return error_of(act)[0]

    def test_all_or_none(self):
        roster = Roster(RULES, ROWS)
        self.assertIsNone(self.add(roster, ((0, (0, 1)), (1, (1, 0)))))
        self.assertEqual(roster.deeds(), ((0, (0, 1)), (1, (1, 0))))
        kept = roster.rows()
        self.assertEqual(self.add(roster, ((0, (0, 1)), (2, (0, 1)))), ("Refused", 1, "UnknownDay"))
        self.assertEqual((roster.rows(), len(roster.deeds())), (kept, 2))

    def test_no_tuple_of_pairs(self):
        roster = Roster(RULES, ROWS)
        deed = (0, (0, 1))
        for deeds in (None, 5, [deed], (deed,) * 201, (deed, None), (deed, ()), (deed, (0,)), (deed, (0, 1, 2)),
                      (deed, [0, (0, 1)]), "ab", {0: deed}, ((9, 9), 5)):
            self.assertEqual(self.add(roster, deeds), ("Refused", -1, None))
        self.assertIsNone(self.add(roster, (deed,) * 200))
        self.assertEqual((roster.rows(), len(roster.deeds())), (ROWS, 200))
        self.assertIsNone(self.add(roster, ()))

    def test_each_reason(self):
        roster = Roster((SIX,), ((0, 0), (1, 1), (2, 2), (0, 0)), together=3)
        roster.sit_out(3)
        right = (0, (0, 1, 2))
        reasons = {
            (1, (0, 1)): "UnknownDay", (0, None): "InvalidPeople", (0, (0,)): "InvalidPeople",
            (0, (0, 4)): "UnknownPerson", (0, (0, 0)): "InvalidPeople", (0, (0, 3)): "Absent",
            (0, (0, 1, 2, 2)): "InvalidPeople", (0, (0, 1)): "Barred", (None, None): "UnknownDay",
        }
        for deed, reason in reasons.items():
            self.assertEqual(self.add(roster, (deed, (9, 9))), ("Refused", 0, reason))
            if reason != "Barred":
                self.assertEqual(self.add(roster, (right, deed, (9, 9))), ("Refused", 1, reason))
        roster.take_part(3)
        self.assertEqual(self.add(roster, ((0, (0, 1, 2, 3)),)), ("Refused", 0, "TooMany"))
        self.assertEqual(self.add(roster, (right, right, right)), ("Refused", 1, "Barred"))
        self.assertEqual((roster.rows(), roster.deeds()), (((0, 0), (1, 1), (2, 2), (0, 0)), ()))

    def test_any_value(self):
        roster = Roster(RULES, ROWS)
        for value in odd_values():
            if value != ():
                told = self.add(roster, value)
                self.assertEqual(told[0], "Refused", value)
                self.assertIn(told[1:], [(-1, None), (0, "UnknownDay"), (0, "InvalidPeople")])
            self.assertEqual(self.add(roster, (value,))[0], "Refused")
            self.assertEqual(self.add(roster, ((0, value),))[2] if value != (0, 1) else "InvalidPeople",
                             "InvalidPeople" if not isinstance(value, tuple) or len(value) < 2 or value in ((0, 0), (0, 1))
                             else "UnknownPerson")
        while roster.deeds():
            roster.back()
        self.assertEqual(roster.rows(), ROWS)


class LongRows(unittest.TestCase):
    def drawn_deed(self, random, rules, rows):
        many = min(len(rows), random.choice((2, 2, 2, 3, 3, 4, 6)))
        people = tuple(random.sample(range(len(rows)), max(many, 1)))
        if random.randrange(12) == 0:
            people = random.choice((None, people[:1], people + (99,), people + people[:1], list(people), (True,) + people))
        day = random.randrange(len(rules)) if random.randrange(15) else random.choice((-1, len(rules), None, True))
        return day, people

    def act(self, random, roster, model):
        """Does one thing to both; the error told by the roster, and the one by the words."""
        kind = random.choice("rrrrreeebbbaaaopcd+")
        rules, rows = model.rules, model.current
        day, people = self.drawn_deed(random, rules, rows)
        if kind == "r":
            return error_of(lambda: roster.hand_round(day, people))[0], model.hand_round(day, people)
        if kind == "e":
            one, other = random.choice((0, -1, len(rows) - 1)), random.choice((0, 1, len(rows), None))
            return error_of(lambda: roster.exchange(day, one, other))[0], model.hand_round(day, (one, other))
        if kind == "b":
            return error_of(roster.back)[0], model.back()
        if kind == "a":
            return error_of(roster.again)[0], model.again()
        if kind == "o":
            model.out.add(len(rows) - 1)
            return error_of(lambda: roster.sit_out(len(rows) - 1))[0], None
        if kind in "pd":
            model.out.discard(len(rows) - 1)
            return error_of(lambda: roster.take_part(len(rows) - 1))[0], None
        if kind == "c":
            rule = random_rule(random, random.choice((rules[0][0],) * 5 + (2,)), 85)
            return error_of(lambda: roster.change_rule(day, rule))[0], model.change_rule(day, rule)
        deeds = tuple(self.drawn_deed(random, rules, rows) for _ in range(random.randrange(4)))

        def add():
            nonlocal roster
            roster += deeds

        return error_of(add)[0], model.add(deeds)

    def test_all_against_the_words(self):
        random, seen = Random(231), {}
        for _ in range(120):
            rules, rows, together = drawn(random, 7)
            roster, model = Roster(rules, rows, together=together), Model(rules, rows, together)
            for _ in range(60):
                before = roster.rows(), roster.deeds(), roster.absent(), roster.price()
                told, right = self.act(random, roster, model)
                self.assertEqual(told, right)
                seen[told and told[0]] = seen.get(told and told[0], 0) + 1
                if told is not None:
                    self.assertEqual((roster.rows(), roster.deeds(), roster.absent(), roster.price()), before)
                self.assertEqual(roster.rows(), model.current)
                self.assertEqual(roster.deeds(), tuple(model.done))
                self.assertEqual(roster.absent(), tuple(sorted(model.out)))
                again = rows
                for day, people in roster.deeds():
                    again = handed_round(again, day, people)
                self.assertEqual(again, roster.rows())
                self.assertEqual([row[0] for row in roster.rows()], [row[0] for row in rows])
                for day, rule in enumerate(model.rules):
                    for row in roster.rows():
                        self.assertIn((row[day], row[day + 1]), prices_by_pair(rule))
        names = {None, "UnknownDay", "InvalidPeople", "UnknownPerson", "Absent", "TooMany", "Barred", "NothingDone",
                 "SizesDiffer", "Refused"}
        self.assertEqual(set(seen), names, seen)
        self.assertGreater(min(seen.values()), 5, seen)


class Settle(unittest.TestCase):
    def check(self, rules, rows, out=(), together=2):
        roster = Roster(rules, rows, together=together)
        for person in out:
            roster.sit_out(person)
        taking = [person for person in range(len(rows)) if person not in out]
        without = [day for day, rule in enumerate(rules) if not has_order_by_words(rule)]
        if without:
            self.assertEqual(error_of(roster.settle)[0], ("NoOrder", without[0]))
            self.assertEqual((roster.rows(), roster.deeds()), (rows, ()))
            return None
        before, first = roster.rows(), roster.price()
        deeds = roster.settle()
        self.assertEqual(roster.deeds(), deeds)
        self.assertLessEqual(len(deeds), 200)
        price = first
        again = Roster(rules, rows)
        for day, people in deeds:
            self.assertEqual(len(people), 2)
            self.assertFalse(set(people) & set(out))
            again.exchange(day, *people)
            self.assertLessEqual(again.price(), price)
            price = again.price()
        self.assertEqual(again.rows(), roster.rows())
        for day, rule in enumerate(rules):
            table = table_by_words(rules, roster.rows(), taking, day)
            sums = sums_of_rows(table_by_words(rules, before, taking, day))
            self.assertEqual(sums_of_rows(table), sums)
            self.assertEqual(price_of_table(rule, table), least_price(rule, sums))
        self.assertEqual(roster.settle(), ())
        for person in out:
            self.assertEqual(roster.rows()[person], rows[person])
        return len(deeds)

    def test_of_the_example(self):
        self.assertEqual(self.check(RULES, ROWS), 1)
        self.assertEqual(self.check(RULES, ROWS, (0,)), 0)
        self.assertEqual(self.check(RULES, ROWS, (0, 1)), 0)

    def test_rules_without_an_order(self):
        rows = ((0, 0, 0), (1, 1, 1), (2, 2, 2))
        self.assertIsNone(self.check((SIX, SIX), rows))
        open_rule = (3, tuple((i, j, 0) for i in range(3) for j in range(3)))
        self.assertIsNone(self.check((open_rule, SIX), rows, together=5))
        self.assertEqual(error_of(Roster((open_rule, SIX), rows, together=5).settle)[0], ("NoOrder", 1))

    def test_drawn_rosters(self):
        random, seen = Random(232), []
        for _ in range(250):
            rules, rows, together = drawn(random, 13)
            out = random.sample(range(len(rows)), random.choice((0, 0, len(rows) // 3)))
            seen.append(self.check(rules, rows, out, together))
        self.assertIn(None, seen)
        self.assertGreater(max(told for told in seen if told is not None), 5)

    def test_many_people_and_days(self):
        random = Random(233)
        most = 0
        for _ in range(20):
            full = (5, tuple((i, j, i * j) for i in range(5) for j in range(5)))
            rows = tuple(tuple(random.randrange(5) for _ in range(7)) for _ in range(12))
            most = max(most, self.check((full,) * 6, rows))
        self.assertGreater(most, 30)


class InReach(unittest.TestCase):
    """can_have, wish and become against all deeds of those who take part."""

    def made(self, rules, rows, out, together):
        roster = Roster(rules, rows, together=together)
        for person in out:
            roster.sit_out(person)
        return roster

    def check(self, rules, rows, out, together):
        taking = [person for person in range(len(rows)) if person not in out]
        found = rosters_reached(rules, rows, taking, together)
        needs_more = [day for day, rule in enumerate(rules) if crew_by_words(rule) > together]
        seen = [0, 0]
        for person, day, shift in product(range(len(rows)), range(len(rules) + 1), range(rules[0][0])):
            roster = self.made(rules, rows, out, together)
            ahead = [t for t in needs_more if t < day]
            if ahead:
                for act in (roster.can_have, roster.wish):
                    self.assertEqual(error_of(lambda: act(person, day, shift))[0], ("NeedsMore", ahead[0]))
                self.assertEqual(roster.deeds(), ())
                continue
            right = any(told[person][day] == shift for told in found)
            self.assertIs(roster.can_have(person, day, shift), right)
            self.assertEqual((roster.rows(), roster.deeds()), (rows, ()))
            seen[right] += 1
            if not right:
                self.assertEqual(error_of(lambda: roster.wish(person, day, shift))[0], ("Unreachable",))
                self.assertEqual((roster.rows(), roster.deeds()), (rows, ()))
                continue
            deeds = roster.wish(person, day, shift)
            self.check_deeds(roster, rules, rows, out, together, deeds)
            self.assertEqual(roster[person, day], shift)
            self.assertEqual(deeds == (), rows[person][day] == shift)
        self.check_become(rules, rows, out, together, found, needs_more)
        return seen

    def check_deeds(self, roster, rules, rows, out, together, deeds):
        self.assertEqual(roster.deeds(), deeds)
        self.assertLessEqual(len(deeds), 200)
        after = rows
        for day, people in deeds:
            self.assertIsInstance(people, tuple)
            self.assertTrue(2 <= len(people) <= together and len(set(people)) == len(people))
            self.assertFalse(set(people) & set(out))
            self.assertTrue(can_be_handed_round(rules, after, day, people))
            after = handed_round(after, day, people)
        self.assertEqual(after, roster.rows())

    def check_become(self, rules, rows, out, together, found, needs_more):
        random = Random(len(found))
        bent = []
        for _ in range(6):
            wanted = [list(row) for row in random.choice(sorted(found))]
            one, other = random.randrange(len(rows)), random.randrange(len(rows))
            day = random.randrange(len(rules) + 1)
            wanted[one][day], wanted[other][day] = wanted[other][day], random.choice((wanted[one][day], 0))
            bent.append(tuple(map(tuple, wanted)))
        for wanted in random.sample(sorted(found), min(len(found), 12)) + bent:
            roster = self.made(rules, rows, out, together)
            wrong = [
                p for p, row in enumerate(wanted)
                if any((row[t], row[t + 1]) not in prices_by_pair(rule) for t, rule in enumerate(rules))
            ]
            error, deeds = error_of(lambda: roster.become(wanted))
            if wrong:
                self.assertEqual(error, ("InvalidRow", wrong[0]))
            elif needs_more:
                self.assertEqual(error, ("NeedsMore", needs_more[0]))
            elif wanted not in found:
                self.assertEqual(error, ("Unreachable",))
            else:
                self.assertIsNone(error)
                self.check_deeds(roster, rules, rows, out, together, deeds)
                self.assertEqual(roster.rows(), wanted)
            if error is not None:
                self.assertEqual((roster.rows(), roster.deeds()), (rows, ()))

    def test_small_ones(self):
        self.assertEqual(self.check(RULES, ROWS, (), 2), [2, 10])
        self.check(*TURN_OF_SIX, (), 2)
        self.check(*TURN_OF_SIX, (), 3)
        self.check(*TURN_OF_SIX, (1,), 3)
        self.check((STEEP, STEEP), ((0, 0, 0), (1, 0, 0), (1, 1, 1)), (), 2)

    def test_drawn_rosters(self):
        random, seen = Random(234), [0, 0]
        for _ in range(130):
            shifts, days, many = random.choice([(2, 2, 4), (2, 3, 3), (3, 2, 4), (3, 3, 3), (4, 1, 5), (4, 2, 4), (5, 1, 5)])
            rules, rows = random_people(random, shifts, days, many, random.choice((10, 30, 50, 80)))
            out = tuple(random.sample(range(many), random.choice((0, 0, 1))))
            told = self.check(rules, rows, out, random.choice((2, 2, 3, 5)))
            seen = [one + other for one, other in zip(seen, told)]
        self.assertGreater(min(seen), 300)

    def test_great_crews(self):
        for shifts in (3, 4, 5):
            rules, rows = (round_rule(shifts),), tuple((i, i) for i in range(shifts))
            for together in range(2, 6):
                self.check(rules, rows, (), together)

    def test_all_get_what_they_want_in_long_rosters(self):
        random = Random(235)
        full = (5, tuple((i, j, 0) for i in range(5) for j in range(5)))
        most = 0
        for together in (2, 2, 3, 12) * 5:
            rows = tuple(tuple(random.randrange(5) for _ in range(7)) for _ in range(12))
            days = [random.sample(day, 12) for day in zip(*rows)]
            wanted = tuple((row[0],) + rest for row, rest in zip(rows, list(zip(*days[1:]))))
            roster = Roster((full,) * 6, rows, together=together)
            deeds = roster.become(wanted)
            self.assertEqual(roster.rows(), wanted)
            self.check_deeds(roster, (full,) * 6, rows, (), together, deeds)
            most = max(most, len(deeds))
        self.assertGreater(most, 50)

    def test_long_rosters_with_few_steps(self):
        random = Random(236)
        for _ in range(60):
            shifts = random.choice((3, 4, 5))
            rules, rows = random_people(random, shifts, 6, 12, random.choice((0, 10, 30)))
            roster = Roster(rules, rows, together=5)
            for _ in range(3):
                person, day, shift = random.randrange(12), random.randrange(7), random.randrange(shifts)
                if roster.can_have(person, day, shift):
                    roster.wish(person, day, shift)
                    self.assertEqual(roster[person, day], shift)
            self.check_deeds(roster, rules, rows, (), 5, roster.deeds())
            again = Roster(rules, rows, together=5)
            deeds = again.become(roster.rows())
            self.assertEqual(again.rows(), roster.rows())
            self.check_deeds(again, rules, rows, (), 5, deeds)
            again.become(rows)
            self.assertEqual(again.rows(), rows)

    def test_errors_in_their_order(self):
        roster = Roster((LATE, LATE), ROWS)
        six = Roster((SIX, SIX), ((0, 0, 0), (1, 1, 1), (2, 2, 2)))
        for act in (roster.can_have, roster.wish):
            self.assertEqual(error_of(lambda: act(2, 9, 9))[0], ("UnknownPerson", 2))
            self.assertEqual(error_of(lambda: act(True, 9, 9))[0], ("UnknownPerson", True))
            self.assertEqual(error_of(lambda: act(0, 3, 9))[0], ("UnknownDay", 3))
            self.assertEqual(error_of(lambda: act(0, -1, 9))[0], ("UnknownDay", -1))
            self.assertEqual(error_of(lambda: act(0, 2, 2))[0], ("UnknownPlace", 2))
            self.assertEqual(error_of(lambda: act(0, 2, False))[0], ("UnknownPlace", False))
        for act in (six.can_have, six.wish):
            self.assertEqual(error_of(lambda: act(0, 1, 3))[0], ("UnknownPlace", 3))
            self.assertEqual(error_of(lambda: act(0, 1, 0))[0], ("NeedsMore", 0))
            self.assertEqual(error_of(lambda: act(0, 2, 0))[0], ("NeedsMore", 0))
        self.assertIs(six.can_have(0, 0, 0), True)
        self.assertIs(six.can_have(0, 0, 1), False)
        self.assertEqual(six.wish(0, 0, 0), ())
        self.assertEqual(error_of(lambda: six.wish(0, 0, 1))[0], ("Unreachable",))
        six.sit_out(0)
        self.assertEqual(error_of(lambda: six.can_have(0, 1, 0))[0], ("NeedsMore", 0))
        for value in odd_values():
            right = type(value) is int and value in (0, 1)
            for act in (roster.can_have, roster.wish):
                if not right:
                    self.assertEqual(error_of(lambda: act(value, value, value))[0], ("UnknownPerson", value))
                    self.assertEqual(error_of(lambda: act(0, 1, value))[0], ("UnknownPlace", value))
                if not right and value != 2:
                    self.assertEqual(error_of(lambda: act(0, value, value))[0], ("UnknownDay", value))

    def test_errors_of_become(self):
        roster = Roster((SIX, SIX), ((0, 0, 0), (1, 1, 1), (2, 2, 2)), together=3)
        for value in (None, 5, (), ((0, 0, 0),) * 2, ((0, 0, 0),) * 4, [(0, 0, 0)] * 3, "abc"):
            self.assertEqual(error_of(lambda: roster.become(value))[0], ("InvalidRow", None))
        for row in (None, (), (0, 0), (0, 0, 0, 0), [0, 0, 0], (0, 0, 2), (0, 2, 2), (True, 0, 0), (3, 0, 0)):
            self.assertEqual(error_of(lambda: roster.become(((0, 0, 0), row, None)))[0], ("InvalidRow", 1))
        wanted = ((0, 0, 0), (1, 1, 1), (0, 0, 0))
        self.assertEqual(error_of(lambda: roster.become(wanted))[0], ("Unreachable",))
        two = Roster((SIX, SIX), ((0, 0, 0), (1, 1, 1), (2, 2, 2)))
        self.assertEqual(error_of(lambda: two.become(wanted))[0], ("NeedsMore", 0))
        # Somebody else on the first day, though each day has the same numbers.
        swapped = ((0, 1, 1), (1, 1, 1), (0, 1, 1))
        other = Roster((SIX, SIX), ((0, 1, 1), (0, 1, 1), (1, 1, 1)))
        other.change_rule(0, (3, ((0, 1, 0), (1, 1, 0))))
        other.change_rule(1, (3, ((0, 1, 0), (1, 1, 0))))
        self.assertEqual(error_of(lambda: other.become(swapped))[0], ("Unreachable",))
        roster.sit_out(0)
        self.assertEqual(error_of(lambda: roster.become(((0, 1, 1), (1, 2, 2), (2, 0, 0))))[0], ("Unreachable",))
        roster.take_part(0)
        self.assertEqual(len(roster.become(((0, 1, 1), (1, 2, 2), (2, 0, 0)))), 1)
        for value in odd_values():
            self.assertEqual(error_of(lambda: roster.become(value))[0][0], "InvalidRow")


class AllDeeds(unittest.TestCase):
    def test_crews_tell_what_is_enough(self):
        # If no crew is greater than may be together, deeds lead to every roster with the same numbers and first days.
        random = Random(237)
        for _ in range(60):
            rules, rows = random_people(random, random.choice((2, 3)), random.randrange(1, 3), 4, 40)
            together = max(2, *[crew_by_words(rule) for rule in rules])
            wanted = set()
            for days in product(*[set(permutations(day)) for day in list(zip(*rows))[1:]]):
                told = tuple(zip([row[0] for row in rows], *days))
                if all((row[t], row[t + 1]) in prices_by_pair(rules[t]) for row in told for t in range(len(rules))):
                    wanted.add(told)
            self.assertEqual(rosters_reached(rules, rows, range(4), together), wanted)


class Arguments(unittest.TestCase):
    def test_by_name_in_any_order(self):
        roster = Roster(together=2, rows=ROWS, rules=RULES)
        roster.exchange(other=1, one=0, day=0)
        roster.hand_round(people=(0, 1), day=1)
        self.assertEqual(roster.deeds(), ((0, (0, 1)), (1, (0, 1))))
        roster.sit_out(person=0)
        roster.take_part(person=0)
        self.assertEqual(sums_of_rows(roster.table(day=1)), ((1, 1), (1, 1)))
        roster.change_rule(rule=LATE, day=0)
        self.assertIs(roster.can_have(shift=1, day=1, person=0), True)
        self.assertIsInstance(roster.wish(shift=0, day=1, person=0), tuple)
        self.assertIsInstance(roster.become(rows=ROWS), tuple)

    def test_they_stay(self):
        wrong = [[[0, 1], {"a": [2]}], [LATE]]
        before = deepcopy((wrong, RULES, ROWS))
        for act in (lambda: Roster(wrong, ROWS), lambda: Roster(RULES, wrong)):
            self.assertIsNotNone(error_of(act)[0])
        roster = Roster(RULES, ROWS)
        people = [0, 1]
        self.assertEqual(error_of(lambda: roster.hand_round(0, people))[0], ("InvalidPeople",))
        self.assertEqual(error_of(lambda: roster.become(wrong))[0], ("InvalidRow", None))
        roster.settle()
        roster.become(ROWS)
        self.assertEqual((wrong, RULES, ROWS, people), before + ([0, 1],))

    def test_two_rosters_have_nothing_in_common(self):
        one, other = Roster(RULES, ROWS), Roster(RULES, ROWS)
        one.exchange(0, 0, 1)
        one.sit_out(1)
        self.assertEqual((other.rows(), other.deeds(), other.absent()), (ROWS, (), ()))
        told = one.deeds()
        one.back()
        self.assertEqual(told, ((0, (0, 1)),))


if __name__ == "__main__":
    unittest.main()
