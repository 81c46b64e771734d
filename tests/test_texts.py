"""Point 22 and Stage 18: rules, tables and plans as texts, and texts read back."""

import re
import unittest
from copy import deepcopy
from random import Random

from swaprings.errors import ParseError
from swaprings.plans import require_plan
from swaprings.rules import require_rule
from swaprings.texts import format_plan, format_rule, format_table, parse_plan, parse_rule, parse_table
from tests.samples import EMPTY, FALLING, FULL, LATE, SIX, random_plan, random_rules, random_table

MOST = 10 ** 30
WEEK = (((1, 1), (2, 0), (1, 1)), (LATE, LATE))


# The same reading, slowly: a line is right if some text that is right begins with the lines up to it.
def numbers(words):
    if not all(re.fullmatch("-?[0-9]+", word) for word in words):
        return None
    found = [int(word) if len(word) < 50 else 10 ** 60 for word in words]
    return found if [str(number) for number in found] == words else None


def reads_rule(lines):
    """How many of the lines are right, for a rule, and whether they are a whole one."""
    if not lines or lines[0] not in ("shifts 2", "shifts 3", "shifts 4", "shifts 5"):
        return 0, False
    return 1 + reads_steps(lines[1:], int(lines[0][7:])), True


def reads_steps(lines, shifts):
    last = (-1, -1)
    for place, line in enumerate(lines):
        words = line.split(" ")
        told = numbers(words[1:]) if words[0] == "step" and len(words) == 4 else None
        if told is None or not 0 <= min(told[:2]) <= max(told[:2]) < shifts or abs(told[2]) > 99:
            return place
        if tuple(told[:2]) <= last:
            return place
        last = tuple(told[:2])
    return len(lines)


def reads_table(lines):
    rows = []
    for place, line in enumerate(lines):
        words = line.split(" ")
        told = numbers(words[1:]) if words[0] == "row" and 3 <= len(words) <= 6 else None
        if told is None or min(told) < 0 or rows and len(told) != len(rows[0]) or len(rows) == len(told):
            return place, False
        rows.append(told)
        if sum(map(sum, rows)) > MOST:
            return place, False
    return len(lines), bool(rows) and len(rows) == len(rows[0])


def reads_plan(lines):
    if not lines or lines[0] not in ("shifts 2", "shifts 3", "shifts 4", "shifts 5"):
        return 0, False
    shifts, needs, place = int(lines[0][7:]), [], 1
    while place < len(lines) and lines[place].startswith("need "):
        told = numbers(lines[place].split(" ")[1:])
        if told is None or len(told) != shifts or min(told) < 0 or sum(told) > MOST or len(needs) == 7:
            return place, False
        needs.append(told)
        if sum(told) != sum(needs[0]):
            return place, False
        place += 1
    rules = 0
    while place < len(lines):
        if lines[place] != "rule" or rules == len(needs):
            return place, False
        rules, place = rules + 1, place + 1
        end = place
        while end < len(lines) and lines[end] != "rule":
            end += 1
        right = reads_steps(lines[place:end], shifts)
        if right < end - place:
            return place + right, False
        place = end
    return place, rules > 0 and rules >= len(needs) - 1


READERS = {parse_rule: (reads_rule, format_rule), parse_table: (reads_table, format_table),
           parse_plan: (reads_plan, format_plan)}


def told_line(reads, text):
    """The line of the error, None if the text is right."""
    *lines, rest = text.split("\n")
    right, is_whole = reads(lines)
    if right < len(lines) or not is_whole or rest:
        return right
    return None


def drawn_texts(seed):
    random, found = Random(seed), []
    for rule in random_rules(seed + 1, 40, (2, 3, 4, 5)) + [LATE, SIX, EMPTY, FULL, FALLING]:
        found.append((parse_rule, format_rule(rule)))
        found.append((parse_table, format_table(random_table(random, rule, random.choice((0, 5, MOST))))))
        plan = random_plan(random, rule[0], random.choice((0, 4, MOST)))
        found.append((parse_plan, format_plan(plan)))
    return found


class Texts(unittest.TestCase):
    def line(self, parse, text):
        with self.assertRaises(ParseError, msg=text[:200]) as caught:
            parse(text)
        return caught.exception.line

    def check(self, parse, text):
        """Checks what is told of any text against the slow reading; tells the line, or None."""
        reads, format_again = READERS[parse]
        told = told_line(reads, text)
        if told is None:
            self.assertEqual(format_again(parse(text)), text)
        else:
            self.assertEqual(self.line(parse, text), told, text)
        return told

    def test_what_is_written(self):
        self.assertEqual(format_rule((3, ((0, 1, -5), (2, 0, 99)))), "shifts 3\nstep 0 1 -5\nstep 2 0 99\n")
        self.assertEqual(format_rule(EMPTY), "shifts 3\n")
        self.assertEqual(format_table(((3, 0, 2), (0, 0, MOST), (1, 1, 1))), f"row 3 0 2\nrow 0 0 {MOST}\nrow 1 1 1\n")
        rule = (3, ((0, 1, 0),))
        self.assertEqual(format_plan((((2, 1, 0), (3, 0, 0)), (rule, EMPTY))),
                         "shifts 3\nneed 2 1 0\nneed 3 0 0\nrule\nstep 0 1 0\nrule\n")
        self.assertEqual(format_plan((((2, 1, 0), (3, 0, 0)), (rule,))),
                         "shifts 3\nneed 2 1 0\nneed 3 0 0\nrule\nstep 0 1 0\n")

    def test_what_is_written_is_read_back(self):
        random = Random(220)
        for rule in random_rules(221, 150, (2, 3, 4, 5)) + [LATE, SIX, EMPTY, FULL, FALLING]:
            self.assertEqual(parse_rule(format_rule(rule)), rule)
            require_rule(parse_rule(format_rule(rule)))
            table = random_table(random, rule, random.choice((0, 5, MOST)))
            self.assertEqual(parse_table(format_table(table)), table)
            plan = random_plan(random, rule[0], random.choice((0, 4, MOST)))
            self.assertEqual(parse_plan(format_plan(plan)), plan)
            require_plan(parse_plan(format_plan(plan)))
        self.assertEqual(parse_table("row 1 2\nrow 3 4\n"), ((1, 2), (3, 4)))

    def test_empty_texts_and_no_line_end(self):
        for parse in READERS:
            self.assertEqual(self.line(parse, ""), 0)
            self.assertEqual(self.line(parse, "\n"), 0)
            self.assertEqual(self.line(parse, "x"), 0)
            self.assertEqual(self.line(parse, " "), 0)
        for parse, text in drawn_texts(222):
            self.assertEqual(self.line(parse, text[:-1]), text.count("\n") - 1)
            self.assertEqual(self.line(parse, text + "x"), text.count("\n"))
            self.assertEqual(self.line(parse, text + " "), text.count("\n"))
            self.assertEqual(self.line(parse, text + "\n"), text.count("\n"))
            self.assertEqual(self.line(parse, "\n" + text), 0)
            self.assertEqual(self.line(parse, " " + text), 0)
            self.assertEqual(self.line(parse, text.replace("\n", "\r\n")), 0)
            self.assertEqual(self.line(parse, text.replace("\n", "\r")), 0)

    def test_rules(self):
        wrong = {
            "shifts 1\n": 0, "shifts 6\n": 0, "shifts 03\n": 0, "shifts +3\n": 0, "shifts  3\n": 0, "shifts\n": 0,
            "shifts 3 \n": 0, "shifts 3 3\n": 0, "Shifts 3\n": 0, "shifts -3\n": 0, "shifts 3.0\n": 0, "step 0 0 0\n": 0,
            "shifts 2": 0, "shifts 10000000000000000000000000000000000\n": 0, "shifts \n": 0, "shifts\t2\n": 0,
            "shifts 2\nshifts 2\n": 1, "shifts 2\nstep 0 0\n": 1, "shifts 2\nstep 0 0 0 0\n": 1,
            "shifts 2\nstep 0 2 0\n": 1, "shifts 2\nstep 2 0 0\n": 1, "shifts 2\nstep 0 0 100\n": 1,
            "shifts 2\nstep 0 0 -100\n": 1, "shifts 2\nstep 0 0 -0\n": 1, "shifts 2\nstep 0 0 +1\n": 1,
            "shifts 2\nstep 0 0 01\n": 1, "shifts 2\nstep 0 0 -01\n": 1, "shifts 2\nstep 0 0 --1\n": 1,
            "shifts 2\nstep 0 0 - 1\n": 1, "shifts 2\nstep 0 0 -\n": 1, "shifts 2\nstep 0  0 1\n": 1,
            "shifts 2\nstep 0 0 1 \n": 1, "shifts 2\n step 0 0 1\n": 1, "shifts 2\nstep -0 0 1\n": 1,
            "shifts 2\nstep 00 0 1\n": 1, "shifts 2\nstep 0 0 \u0663\n": 1, "shifts 2\nstep 0 0 1_0\n": 1,
            "shifts 2\nstep 0 0 \u00b2\n": 1, "shifts 2\nstep 0 0 1\nstep 0 0 1\n": 2, "shifts 2\nstep 0 1 1\nstep 0 0 1\n": 2,
            "shifts 2\nstep 1 1 1\nstep 0 0 1\nstep 0 1 1\n": 2, "shifts 2\nstep 0 0 1\n\n": 2, "shifts 2\n\n": 1,
            "shifts 2\nstep 1 1 1\nstep 1 2 1\n": 2, "shifts 2\nstep 1 1 1\nrow 1 1\n": 2, "shifts 2\nstep 0 0 1": 1,
            "shifts 2\nrule\n": 1, "shifts 2\nstep 0 0 " + "9" * 4999 + "\n": 1, "shifts 2\nneed 1 1\n": 1,
        }
        for text, line in wrong.items():
            self.assertEqual(self.line(parse_rule, text), line, text[:50])
            self.assertEqual(self.check(parse_rule, text), line)
        self.assertEqual(parse_rule("shifts 2\nstep 0 0 -99\nstep 1 0 99\n"), (2, ((0, 0, -99), (1, 0, 99))))
        self.assertEqual(parse_rule("shifts 5\n"), (5, ()))

    def test_tables(self):
        wrong = {
            "row 1\n": 0, "row 1 2 3 4 5 6\n": 0, "row\n": 0, "row 1 -2\n": 0, "row 01 2\n": 0, "rows 1 2\n": 0,
            "row 1  2\n": 0, "row 1 2 \n": 0, f"row 0 {MOST + 1}\n": 0, f"row 1 {MOST}\n": 0, "row 1 2": 0,
            "row 1 2\nrow 3\n": 1, "row 1 2\nrow 3 4 5\n": 1, "row 1 2\n": 1, "row 1 2\nrow 3 4": 1,
            "row 1 2\nrow 3 4\nrow 5 6\n": 2, "row 1 2\n\n": 1, "row 1 2\nrow 3 4\n\n": 2, "row 1 2\nrow +3 4\n": 1,
            f"row 1 0\nrow 0 {MOST}\n": 1, f"row 0 {MOST}\nrow 1 0\n": 1, "row 1 2 3\nrow 1 2 3\n": 2,
            "row 1 2\nrow 3 " + "9" * 10000 + "\n": 1, "row 0 0 0 0 0\n" * 6: 5, "row 0 0 0 0 0\n" * 4: 4, "row 1 - 2\n": 0,
        }
        for text, line in wrong.items():
            self.assertEqual(self.line(parse_table, text), line, text[:50])
            self.assertEqual(self.check(parse_table, text), line)
        self.assertEqual(parse_table(f"row 0 {MOST}\nrow 0 0\n"), ((0, MOST), (0, 0)))

    def test_plans(self):
        head = "shifts 2\nneed 1 1\nneed 2 0\n"
        wrong = {
            "shifts 2\n": 1, "shifts 2\nrule\n": 1, "shifts 2\nneed 1 1\n": 2, "need 1 1\n": 0, "shifts 2\nneed 1\n": 1,
            "shifts 2\nneed 1 1 1\n": 1, "shifts 2\nneed 1 -1\n": 1, f"shifts 2\nneed 1 {MOST}\n": 1, head: 3,
            f"shifts 2\nneed 0 {MOST + 1}\n": 1, "shifts 2\nneed 1 1\nneed 1 2\n": 2, "shifts 2\nneed 1 1\nneed 1 0\n": 2,
            "shifts 2\nneed 1 1\nrule\nneed 1 1\n": 3, "shifts 2\nneed 1 1\nrule\nrule\n": 3, head + "rule\nrule\nrule\n": 5,
            "shifts 2\n" + "need 1 1\n" * 8: 8, "shifts 2\n" + "need 1 1\n" * 7 + "rule\n" * 5: 13,
            "shifts 2\n" + "need 1 1\n" * 7 + "rule\n" * 8: 15, head + "step 0 0 0\n": 3, head + "rule\nstep 0 2 0\n": 4,
            head + "rule\nstep 0 1 0\nstep 0 0 0\n": 5, head + "rule \n": 3, head + " rule\n": 3, head + "rule 0\n": 3,
            head + "Rule\n": 3, head + "rule\n\n": 4, head + "\nrule\n": 3, head + "rule": 3, head + "rule\nstep 0 1 0": 4,
            "shifts 2\nneed 1 1\nneed 1 1\nneed 1 1\nrule\n": 5, "shifts 2\nneed 01 1\n": 1, "shifts 2\nneed 1  1\n": 1,
        }
        for text, line in wrong.items():
            self.assertEqual(self.line(parse_plan, text), line, text)
            self.assertEqual(self.check(parse_plan, text), line)
        self.assertEqual(parse_plan("shifts 2\nneed 1 1\nrule\n"), (((1, 1),), ((2, ()),)))
        self.assertEqual(parse_plan(head + "rule\nstep 0 1 -1\nrule\nstep 0 0 0\n"),
                         (((1, 1), (2, 0)), ((2, ((0, 1, -1),)), (2, ((0, 0, 0),)))))
        self.assertEqual(len(parse_plan("shifts 2\n" + "need 1 1\n" * 7 + "rule\n" * 6)[1]), 6)
        self.assertEqual(len(parse_plan("shifts 2\n" + "need 1 1\n" * 7 + "rule\n" * 7)[1]), 7)

    def test_bent_lines(self):
        random, seen = Random(223), {None: 0}
        for parse, text in drawn_texts(224) * 6:
            lines = text.split("\n")[:-1]
            place = random.randrange(len(lines))
            for _ in range(random.choice((1, 1, 2))):
                act = random.randrange(5)
                other = random.randrange(len(lines)) if lines else 0
                if act == 0 and lines:
                    del lines[min(place, len(lines) - 1)]
                elif act == 1 and lines:
                    lines.insert(place, lines[other])
                elif act == 2 and place < len(lines):
                    lines[place], lines[other] = lines[other], lines[place]
                elif act == 3:
                    lines.insert(place, random.choice(("", "rule", "step 0 0 0", "need 0 0", "row 0 0", "shifts 2", "x")))
                elif place < len(lines):
                    lines[place] = lines[place] + random.choice((" ", "0", " 0", "x", "\r"))
            told = self.check(parse, "".join(line + "\n" for line in lines))
            seen[told] = seen.get(told, 0) + 1
        self.assertGreater(seen[None], 20)
        self.assertGreater(len(seen), 10)

    def test_bent_words_and_signs(self):
        random, seen = Random(225), {None: 0}
        signs = ["0", "1", "9", "-", "+", " ", "\n", "x", "", "00", "  ", "10", "_", "\u0661", "\t", ".", "row", "rule\n"]
        for parse, text in drawn_texts(226) * 8:
            at = random.randrange(len(text) + 1)
            told = self.check(parse, text[:at] + random.choice(signs) + text[at + random.randrange(2):])
            seen[told] = seen.get(told, 0) + 1
        self.assertGreater(seen[None], 20)
        self.assertGreater(len(seen), 10)

    def test_each_prefix(self):
        for parse, text in drawn_texts(227)[:30]:
            for end in range(len(text)):
                self.check(parse, text[:end])

    def test_long_texts(self):
        self.assertEqual(self.line(parse_table, "row 0 0\n" * 2500), 2)
        self.assertEqual(self.line(parse_rule, "shifts 5\n" + "\n" * 19000), 1)
        self.assertEqual(self.line(parse_plan, "shifts 5\n" + "x" * 19000), 1)
        self.assertEqual(self.line(parse_plan, "9" * 20000), 0)


class Arguments(unittest.TestCase):
    def test_by_name_and_they_stay(self):
        plan, table = deepcopy(WEEK), ((0, 3), (2, 0))
        self.assertEqual(parse_rule(text=format_rule(rule=LATE)), LATE)
        self.assertEqual(parse_table(text=format_table(table=table)), table)
        self.assertEqual(parse_plan(text=format_plan(plan=plan)), plan)
        self.assertEqual((plan, table), (WEEK, ((0, 3), (2, 0))))


if __name__ == "__main__":
    unittest.main()
