"""The errors: their bases, and their arguments as attributes."""

import unittest

from swaprings import errors

LISTED = {
    ValueError: {
        "InvalidRule": ("part",), "InvalidSums": (), "InvalidTable": ("part",), "InvalidOptions": ("index",),
        "InvalidPlan": ("part",), "InvalidRota": ("part",), "InvalidChange": ("part",), "InvalidRules": ("index",),
        "InvalidRow": ("index",), "InvalidPeople": (), "InvalidTogether": ("value",), "InvalidClaim": (),
        "SizesDiffer": (), "NotTogether": (), "ParseError": ("line",),
    },
    LookupError: {"UnknownDay": ("value",), "UnknownPerson": ("value",), "UnknownPlace": ("value",)},
    RuntimeError: {
        "CannotTurn": ("index",), "CannotChange": ("place",), "Barred": ("step",), "Absent": ("person",),
        "TooMany": ("many",), "NothingDone": (), "NoOrder": ("day",), "NeedsMore": ("day",), "Unreachable": (),
        "Refused": ("index", "reason"),
    },
}
LINES = [(base, name, words) for base, listed in LISTED.items() for name, words in listed.items()]
PARTS = [None, ("step", 3), -1, [1, 2], {"a": (True, None)}, "text", 10 ** 79]


class Errors(unittest.TestCase):
    def test_each_is_a_direct_subclass_of_its_base(self):
        for base, name, _ in LINES:
            self.assertEqual(getattr(errors, name).__bases__, (base,), name)

    def test_none_is_a_subclass_of_another_one(self):
        classes = [getattr(errors, name) for _, name, _ in LINES]
        for one in classes:
            self.assertEqual([other for other in classes if issubclass(one, other)], [one])

    def test_nothing_else_is_defined(self):
        defined = {name for name, thing in vars(errors).items() if isinstance(thing, type)}
        self.assertEqual(defined, {name for _, name, _ in LINES})

    def test_arguments_by_position_and_by_name(self):
        for base, name, words in LINES:
            for part in PARTS:
                told = dict(zip(words, (part, "Absent")))
                for error in (getattr(errors, name)(*told.values()), getattr(errors, name)(**told)):
                    self.assertIsInstance(error, base)
                    self.assertEqual(vars(error), told)

    def test_each_is_raised_and_caught_by_its_name_and_keeps_the_very_arguments(self):
        for base, name, words in LINES:
            held = [[] for _ in words]
            with self.assertRaises(getattr(errors, name)) as caught:
                raise getattr(errors, name)(*held)
            for word, part in zip(words, held):
                self.assertIs(getattr(caught.exception, word), part)

    def test_arguments_lack(self):
        for _, name, words in LINES:
            if words:
                with self.assertRaises(TypeError, msg=name):
                    getattr(errors, name)()

    def test_by_name_in_any_order(self):
        error = errors.Refused(reason="Barred", index=2)
        self.assertEqual((error.index, error.reason), (2, "Barred"))


if __name__ == "__main__":
    unittest.main()
