"""All errors of the package. Each keeps its arguments as attributes."""


class InvalidRule(ValueError):
    """A value is no rule; part tells where."""

    def __init__(self, part):
        self.part = part


class InvalidSums(ValueError):
    """A value is no sums."""


class InvalidTable(ValueError):
    """A value is no table; part tells where."""

    def __init__(self, part):
        self.part = part


class InvalidOptions(ValueError):
    """A value is no options; index is that of the first wrong one."""

    def __init__(self, index):
        self.index = index


class InvalidPlan(ValueError):
    """A value is no plan; part tells where."""

    def __init__(self, part):
        self.part = part


class InvalidRota(ValueError):
    """A value is no rota; part tells where."""

    def __init__(self, part):
        self.part = part


class InvalidChange(ValueError):
    """A value is no change; part tells where."""

    def __init__(self, part):
        self.part = part


class InvalidRules(ValueError):
    """A value is no rules of a roster; index is that of the first wrong one."""

    def __init__(self, index):
        self.index = index


class InvalidRow(ValueError):
    """A value is no rows of a roster; index is that of the first wrong one."""

    def __init__(self, index):
        self.index = index


class InvalidPeople(ValueError):
    """A value is no tuple of different people."""


class InvalidTogether(ValueError):
    """A value is no number of people that may be together."""

    def __init__(self, value):
        self.value = value


class InvalidClaim(ValueError):
    """A value is no claim, or not a valid one."""


class SizesDiffer(ValueError):
    """Two things have different numbers of shifts."""


class NotTogether(ValueError):
    """Two rows have different shifts on the day."""


class ParseError(ValueError):
    """A text is not as it is written; line is the index of the first wrong one."""

    def __init__(self, line):
        self.line = line


class UnknownDay(LookupError):
    """There is no such day."""

    def __init__(self, value):
        self.value = value


class UnknownPerson(LookupError):
    """There is no such person."""

    def __init__(self, value):
        self.value = value


class UnknownPlace(LookupError):
    """There is no such place."""

    def __init__(self, value):
        self.value = value


class CannotTurn(RuntimeError):
    """A turn cannot be done; index tells where."""

    def __init__(self, index):
        self.index = index


class CannotChange(RuntimeError):
    """A change cannot be added to a table, because of this place."""

    def __init__(self, place):
        self.place = place


class Barred(RuntimeError):
    """A step is barred."""

    def __init__(self, step):
        self.step = step


class Absent(RuntimeError):
    """A person does not take part."""

    def __init__(self, person):
        self.person = person


class TooMany(RuntimeError):
    """So many people may not be together."""

    def __init__(self, many):
        self.many = many


class NothingDone(RuntimeError):
    """There is no deed to undo or to do again."""


class NoOrder(RuntimeError):
    """The rule behind the day has no order."""

    def __init__(self, day):
        self.day = day


class NeedsMore(RuntimeError):
    """The rule behind the day needs more people together than there may be."""

    def __init__(self, day):
        self.day = day


class Unreachable(RuntimeError):
    """No deeds lead there."""


class Refused(RuntimeError):
    """The deed of this index is refused; reason is the name of its error's class."""

    def __init__(self, index, reason):
        self.index = index
        self.reason = reason
