"""Rules, tables and plans as texts, and texts read back."""

from swaprings.errors import ParseError
from swaprings.plans import MOST_DAYS
from swaprings.rules import FEWEST_SHIFTS, MOST_PRICE, MOST_SHIFTS
from swaprings.values import MOST_PEOPLE

DIGITS = "0123456789"
MOST_DIGITS = 31


def format_rule(rule):
    """Returns the text of the rule."""
    return "".join(_rule_lines(rule, f"shifts {rule[0]}"))


def _rule_lines(rule, head):
    """Returns the lines of the rule's steps behind the head, each with its line end."""
    return [f"{head}\n"] + [f"step {i} {j} {price}\n" for i, j, price in rule[1]]


def format_table(table):
    """Returns the text of the table."""
    return "".join([_line_of("row", row) for row in table])


def _line_of(word, numbers):
    return " ".join([word] + [str(number) for number in numbers]) + "\n"


def format_plan(plan):
    """Returns the text of the plan."""
    needs, rules = plan
    lines = [f"shifts {rules[0][0]}\n"] + [_line_of("need", need) for need in needs]
    for rule in rules:
        lines.extend(_rule_lines(rule, "rule"))
    return "".join(lines)


def parse_rule(text):
    """Returns the rule of the text, raises ParseError if there is none."""
    shifts, steps = None, []
    lines = _lines_of(text)
    for index, parts in enumerate(lines):
        if index == 0:
            shifts = _shifts_in(parts)
            fits = shifts is not None
        else:
            fits = _add_step(steps, parts, shifts)
        if not fits:
            raise ParseError(index)
    _require_end(text, len(lines), shifts is not None)
    return shifts, tuple(steps)


def parse_table(text):
    """Returns the table of the text, raises ParseError if there is none."""
    rows = []
    people = 0
    lines = _lines_of(text)
    for index, parts in enumerate(lines):
        row = _counts_in(parts, "row")
        if row is None or not FEWEST_SHIFTS <= len(row) <= MOST_SHIFTS:
            raise ParseError(index)
        people = people + sum(row)
        if people > MOST_PEOPLE or len(row) != len((rows + [row])[0]) or len(rows) == len(row):
            raise ParseError(index)
        rows.append(row)
    _require_end(text, len(lines), len(rows) > 0 and len(rows) == len(rows[0]))
    return tuple(rows)


def parse_plan(text):
    """Returns the plan of the text, raises ParseError if there is none."""
    shifts, needs, rules = None, [], []
    lines = _lines_of(text)
    for index, parts in enumerate(lines):
        if index == 0:
            shifts = _shifts_in(parts)
            fits = shifts is not None
        else:
            fits = _add_line(needs, rules, parts, shifts)
        if not fits:
            raise ParseError(index)
    _require_end(text, len(lines), len(rules) > 0 and len(rules) >= len(needs) - 1)
    return tuple(needs), tuple([(shifts, tuple(steps)) for steps in rules])


def _add_line(needs, rules, parts, shifts):
    """Adds what the line tells to the needs or the rules' steps; tells whether it can stand there."""
    if parts == ["rule"]:
        rules.append([])
        return len(rules) <= len(needs)
    if rules:
        return _add_step(rules[-1], parts, shifts)
    need = _counts_in(parts, "need")
    if need is None or len(need) != shifts or len(needs) == MOST_DAYS:
        return False
    needs.append(need)
    return sum(need) <= MOST_PEOPLE and sum(need) == sum(needs[0])


def _add_step(steps, parts, shifts):
    """Adds the step that the line tells to the steps; tells whether it can stand there."""
    if len(parts) != 4 or parts[0] != "step":
        return False
    i, j, price = _number_in(parts[1], shifts - 1), _number_in(parts[2], shifts - 1), _price_in(parts[3])
    if i is None or j is None or price is None:
        return False
    if steps and (i, j) <= steps[-1][:2]:
        return False
    steps.append((i, j, price))
    return True


def _lines_of(text):
    """Returns for each line, the part ahead of a line end, the list of its parts."""
    return [line.split(" ") for line in text.split("\n")[:-1]]


def _require_end(text, many, is_complete):
    """Raises ParseError behind so many lines that are right, if the text does not end there as it shall."""
    if not is_complete or not text.endswith("\n"):
        raise ParseError(many)


def _shifts_in(parts):
    """Returns the number of shifts that the line tells, or None."""
    if len(parts) != 2 or parts[0] != "shifts":
        return None
    shifts = _number_in(parts[1], MOST_SHIFTS)
    return None if shifts is None or shifts < FEWEST_SHIFTS else shifts


def _counts_in(parts, word):
    """Returns the tuple of the counts behind the word, or None."""
    counts = [_number_in(part, MOST_PEOPLE) for part in parts[1:]]
    return None if parts[0] != word or None in counts else tuple(counts)


def _price_in(part):
    """Returns the price that the part of a line tells, or None."""
    if not part.startswith("-"):
        return _number_in(part, MOST_PRICE)
    number = _number_in(part[1:], MOST_PRICE)
    return None if number is None or number == 0 else -number


def _number_in(part, most):
    """Returns the integer from 0 to the most that the part of a line tells, or None."""
    if not 1 <= len(part) <= MOST_DIGITS or not all([sign in DIGITS for sign in part]):
        return None
    if part[0] == "0" and len(part) > 1:
        return None
    number = int(part)
    return number if number <= most else None
