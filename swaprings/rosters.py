"""Rosters of people, who change places behind the days."""

from swaprings.deeds import (
    MOST_PEOPLE_OF_ROSTER, are_in_reach, are_rows, are_rules, deeds_to_rows, deeds_to_shift, first_barred_step,
    first_wrong_row, rows_behind, settling_deeds, shifts_in_reach, step_of, steps_of_deed, table_of,
)
from swaprings.errors import (
    Absent, Barred, InvalidPeople, InvalidRow, InvalidRules, InvalidTogether, NeedsMore, NoOrder, NothingDone, Refused,
    SizesDiffer, TooMany, UnknownDay, UnknownPerson, UnknownPlace, Unreachable,
)
from swaprings.orders import least_order
from swaprings.rings import crew
from swaprings.rules import first_wrong_rule, require_rule
from swaprings.tables import price_of_table
from swaprings.values import is_tuple_of, is_whole

MOST_DEEDS = 200
FEWEST_TOGETHER = 2


class Roster:
    """A roster of people that lives: they change places behind its days, by allowed steps only."""

    def __init__(self, rules, rows, *, together=2):
        if not are_rules(rules):
            raise InvalidRules(None)
        wrong = first_wrong_rule(rules)
        if wrong is not None:
            raise InvalidRules(wrong)
        if not are_rows(rows):
            raise InvalidRow(None)
        wrong = first_wrong_row(rules, rows)
        if wrong is not None:
            raise InvalidRow(wrong)
        if not is_whole(together, FEWEST_TOGETHER, MOST_PEOPLE_OF_ROSTER):
            raise InvalidTogether(together)
        self._rules = rules
        self._rows = rows
        self._together = together
        self._absent = ()
        self._done = []
        self._undone = []

    def __len__(self):
        return len(self._rows)

    def __getitem__(self, at):
        person, day = at
        if not is_whole(person, 0, len(self._rows) - 1):
            raise UnknownPlace(person)
        if not is_whole(day, 0, len(self._rules)):
            raise UnknownPlace(day)
        return self._rows[person][day]

    def __iter__(self):
        raise TypeError("a roster is not iterated over")

    def __iadd__(self, deeds):
        if not _are_pairs(deeds):
            raise Refused(-1, None)
        rows = self._rows
        for index, (day, people) in enumerate(deeds):
            reason = self._reason_against(rows, day, people)
            if reason is not None:
                raise Refused(index, reason)
            rows = rows_behind(rows, day, people)
        self._do(deeds)
        return self

    def rows(self):
        """Returns the row of each person."""
        return self._rows

    def price(self):
        """Returns what all steps of all people cost together."""
        return sum([price_of_table(rule, self.table(day)) for day, rule in enumerate(self._rules)])

    def absent(self):
        """Returns the ascending tuple of those who take no part."""
        return self._absent

    def table(self, day):
        """Returns the table of all people from the day to the next."""
        self._require_day(day)
        return table_of(self._rules, self._rows, list(range(len(self._rows))), day)

    def exchange(self, day, one, other):
        """Lets the two change places behind the day."""
        self.hand_round(day, (one, other))

    def hand_round(self, day, people):
        """Gives each of the people the later days of the next one, the last one those of the first."""
        self._require_deed(self._rows, day, people)
        self._do([(day, people)])

    def sit_out(self, person):
        """Lets the person take no part."""
        self._require_person(person)
        self._absent = tuple(sorted(set(self._absent + (person,))))

    def take_part(self, person):
        """Lets the person take part again."""
        self._require_person(person)
        self._absent = tuple([other for other in self._absent if other != person])

    def deeds(self):
        """Returns the deeds that were done and are not undone, in order."""
        return tuple(self._done)

    def back(self):
        """Undoes the last deed."""
        if not self._done:
            raise NothingDone()
        day, people = self._done[-1]
        _require_allowed(self._rules[day], steps_of_deed(self._rows, day, people[::-1])[::-1])
        self._rows = rows_behind(self._rows, day, people[::-1])
        self._undone.append(self._done.pop())

    def again(self):
        """Does the deed that was undone last, if no other one was done since."""
        if not self._undone:
            raise NothingDone()
        day, people = self._undone[-1]
        _require_allowed(self._rules[day], steps_of_deed(self._rows, day, people))
        self._rows = rows_behind(self._rows, day, people)
        self._done.append(self._undone.pop())

    def change_rule(self, day, rule):
        """Puts the rule in the place of the one behind the day."""
        self._require_day(day)
        require_rule(rule)
        if rule[0] != self._rules[0][0]:
            raise SizesDiffer()
        _require_allowed(rule, sorted([step_of(row, day) for row in self._rows]))
        self._rules = self._rules[:day] + (rule,) + self._rules[day + 1:]

    def settle(self):
        """Does exchanges, none of which makes the price greater, to the least price; returns them."""
        for day, rule in enumerate(self._rules):
            if least_order(rule) is None:
                raise NoOrder(day)
        return self._do(settling_deeds(self._rules, self._rows, self._taking()))

    def can_have(self, person, day, shift):
        """Tells whether deeds of those who take part can lead to the person having the shift on the day."""
        self._require_wish(person, day, shift)
        return self._is_in_reach(person, day, shift)

    def wish(self, person, day, shift):
        """Does deeds that lead to the person having the shift on the day; returns them."""
        self._require_wish(person, day, shift)
        if not self._is_in_reach(person, day, shift):
            raise Unreachable()
        wish = (person, day, shift)
        return self._do(deeds_to_shift(self._rules, self._rows, self._taking(), self._together, wish))

    def become(self, rows):
        """Does deeds that lead to these rows; returns them."""
        if not is_tuple_of(rows, len(self._rows)):
            raise InvalidRow(None)
        wrong = first_wrong_row(self._rules, rows)
        if wrong is not None:
            raise InvalidRow(wrong)
        self._require_crews(len(self._rules))
        if not are_in_reach(self._rows, self._taking(), rows):
            raise Unreachable()
        return self._do(deeds_to_rows(self._rules, self._rows, self._taking(), self._together, rows))

    def _taking(self):
        """Returns the ascending list of those who take part."""
        return [person for person in range(len(self._rows)) if person not in self._absent]

    def _do(self, deeds):
        """Does deeds that are allowed; returns the tuple of them."""
        for day, people in deeds:
            self._rows = rows_behind(self._rows, day, people)
        self._done.extend(list(deeds))
        if deeds:
            self._undone = []
        return tuple(deeds)

    def _is_in_reach(self, person, day, shift):
        if person in self._absent:
            return self._rows[person][day] == shift
        return shift in shifts_in_reach(self._rules, self._rows, self._taking(), person, day)[day]

    def _require_day(self, day):
        if not is_whole(day, 0, len(self._rules) - 1):
            raise UnknownDay(day)

    def _require_person(self, person):
        if not is_whole(person, 0, len(self._rows) - 1):
            raise UnknownPerson(person)

    def _require_crews(self, days):
        """Raises NeedsMore with the first of so many days whose rule has a greater crew than may be together."""
        for day in range(days):
            if crew(self._rules[day]) > self._together:
                raise NeedsMore(day)

    def _require_wish(self, person, day, shift):
        self._require_person(person)
        if not is_whole(day, 0, len(self._rules)):
            raise UnknownDay(day)
        if not is_whole(shift, 0, self._rules[0][0] - 1):
            raise UnknownPlace(shift)
        self._require_crews(day)

    def _require_deed(self, rows, day, people):
        """Raises the error of a deed that cannot be done to the rows."""
        self._require_day(day)
        if not isinstance(people, tuple) or len(people) < FEWEST_TOGETHER:
            raise InvalidPeople()
        for person in people:
            self._require_person(person)
        if len(set(people)) < len(people):
            raise InvalidPeople()
        for person in people:
            if person in self._absent:
                raise Absent(person)
        if len(people) > self._together:
            raise TooMany(len(people))
        _require_allowed(self._rules[day], steps_of_deed(rows, day, people))

    def _reason_against(self, rows, day, people):
        """Returns the name of the error of a deed that cannot be done to the rows, None if it can."""
        try:
            self._require_deed(rows, day, people)
        except UnknownDay:
            return "UnknownDay"
        except InvalidPeople:
            return "InvalidPeople"
        except UnknownPerson:
            return "UnknownPerson"
        except Absent:
            return "Absent"
        except TooMany:
            return "TooMany"
        except Barred:
            return "Barred"
        return None


def _require_allowed(rule, steps):
    """Raises Barred with the first of the steps that the rule bars."""
    step = first_barred_step(rule, steps)
    if step is not None:
        raise Barred(step)


def _are_pairs(value):
    """Tells whether the value is a tuple of pairs, no more than may be done in one call."""
    if not isinstance(value, tuple) or len(value) > MOST_DEEDS:
        return False
    return all([is_tuple_of(deed, 2) for deed in value])
