"""Changes from one table to another one with the same sums."""

from swaprings.errors import CannotChange, InvalidChange, SizesDiffer, UnknownPlace
from swaprings.rules import FEWEST_SHIFTS, MOST_SHIFTS, steps_of
from swaprings.tables import added, cells_between, steps_behind
from swaprings.values import MOST_PEOPLE, is_tuple_of, is_whole
from swaprings.ways import agreeing_turns


class Change:
    """A table of integers in which each row and each column has the sum 0."""

    def __init__(self, cells):
        _require_cells(cells)
        self.cells = cells

    @classmethod
    def between(cls, table, other):
        """Returns the change of the other table less the table."""
        return cls(cells_between(table, other))

    @classmethod
    def of(cls, ring, shifts, *, times=1):
        """Returns what so many times the ring, of a rule of so many shifts, change."""
        rows = [[0] * shifts for _ in range(shifts)]
        for i, j in ring:
            rows[i][j] = -times
        for i, j in steps_behind(ring):
            rows[i][j] = times
        return cls(tuple([tuple(row) for row in rows]))

    def people(self):
        """Returns the sum of all numbers above 0."""
        return sum([sum([number for number in row if number > 0]) for row in self.cells])

    def turns(self):
        """Yields turns that agree in sign and whose changes together are this one."""
        for turn in agreeing_turns(self.cells):
            yield turn

    def applied(self, rule, table):
        """Returns the table with the change added, raises CannotChange with the first place that bars it."""
        rows = added(table, self.cells, 1)
        allowed = steps_of(rule)
        for i, row in enumerate(rows):
            for j, many in enumerate(row):
                if many < 0 or (many > 0 and (i, j) not in allowed):
                    raise CannotChange((i, j))
        return rows

    def __getitem__(self, at):
        i, j = at
        for shift in (i, j):
            if not is_whole(shift, 0, len(self.cells) - 1):
                raise UnknownPlace(shift)
        return self.cells[i][j]

    def __iter__(self):
        raise TypeError("a change is not iterated over")

    def __eq__(self, other):
        return isinstance(other, Change) and self.cells == other.cells

    def __bool__(self):
        return any([any(row) for row in self.cells])

    def __add__(self, other):
        if not isinstance(other, Change):
            return NotImplemented
        if len(self.cells) != len(other.cells):
            raise SizesDiffer()
        return Change(added(self.cells, other.cells, 1))

    def __sub__(self, other):
        if not isinstance(other, Change):
            return NotImplemented
        if len(self.cells) != len(other.cells):
            raise SizesDiffer()
        return Change(added(self.cells, other.cells, -1))

    def __neg__(self):
        return Change(_multiplied(self.cells, -1))

    def __mul__(self, other):
        if isinstance(other, bool) or not isinstance(other, int):
            return NotImplemented
        return Change(_multiplied(self.cells, other))

    def __rmul__(self, other):
        if isinstance(other, bool) or not isinstance(other, int):
            return NotImplemented
        return Change(_multiplied(self.cells, other))


def _require_cells(value):
    """Raises InvalidChange if the value is no change."""
    if not isinstance(value, tuple) or not FEWEST_SHIFTS <= len(value) <= MOST_SHIFTS:
        raise InvalidChange(None)
    for i, row in enumerate(value):
        if not is_tuple_of(row, len(value)):
            raise InvalidChange(("row", i))
        if not all([is_whole(number, -MOST_PEOPLE, MOST_PEOPLE) for number in row]):
            raise InvalidChange(("row", i))
    for i, row in enumerate(value):
        if sum(row) != 0:
            raise InvalidChange(("sum", i))
    for j, column in enumerate(zip(*value)):
        if sum(column) != 0:
            raise InvalidChange(("column", j))


def _multiplied(rows, times):
    return tuple([tuple([times * number for number in row]) for row in rows])
