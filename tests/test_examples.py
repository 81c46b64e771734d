"""The examples of the interface, as they stand there, and those of README.md."""

import doctest
import unittest
from pathlib import Path

README = Path(__file__).resolve().parent.parent / "README.md"

STAGE_1 = """
    >>> from swaprings.rules import flipped, price_of, steps_of
    >>> six = (3, ((0, 0, 0), (0, 1, 0), (1, 1, 0), (1, 2, 0), (2, 0, 0), (2, 2, 0)))
    >>> (steps_of(six)[:3], price_of(six, 0, 1), price_of(six, 0, 2), steps_of(flipped(six))[:3])
    (((0, 0), (0, 1), (1, 1)), 0, None, ((0, 0), (0, 2), (1, 0)))
"""

STAGE_2 = """
    >>> from swaprings.tables import price_of_table, sums_of, turned
    >>> late = (2, ((0, 0, 0), (0, 1, 1), (1, 0, 1), (1, 1, 5)))
    >>> table = ((2, 1), (0, 2))
    >>> (sums_of(table), price_of_table(late, table), turned(late, table, ((0, 0), (1, 1)), 2))
    (((3, 2), (2, 3)), 11, ((0, 3), (2, 0)))
"""

STAGE_3 = """
    >>> from swaprings.orders import four_against, least_order, stuck_steps
    >>> late = (2, ((0, 0, 0), (0, 1, 1), (1, 0, 1), (1, 1, 5)))
    >>> six = (3, ((0, 0, 0), (0, 1, 0), (1, 1, 0), (1, 2, 0), (2, 0, 0), (2, 2, 0)))
    >>> steps = ((0, 0), (0, 1), (1, 0), (1, 1))
    >>> (least_order(late), four_against(late, steps, (0, 0)), least_order(six), len(stuck_steps(six)))
    (((0, 1), (0, 0), (1, 0), (1, 1)), (1, 1), None, 6)
"""

STAGE_4 = """
    >>> from swaprings.rings import bare_rings, crew, trails
    >>> six = (3, ((0, 0, 0), (0, 1, 0), (1, 1, 0), (1, 2, 0), (2, 0, 0), (2, 2, 0)))
    >>> (bare_rings(six), crew(six), len(trails(six, 3)))
    ((((0, 0), (1, 1), (2, 2)), ((0, 1), (2, 0), (1, 2))), 3, 8)
"""

STAGE_5 = """
    >>> from swaprings.thresholds import are_joined, least_parted
    >>> six = (3, ((0, 0, 0), (0, 1, 0), (1, 1, 0), (1, 2, 0), (2, 0, 0), (2, 2, 0)))
    >>> (are_joined(six, 2, 2), are_joined(six, 3, 2), are_joined(six, 10 ** 30, 3), least_parted(six, 2))
    (True, False, True, 3)
"""

STAGE_6 = """
    >>> from swaprings.filling import filled, spoiled
    >>> late = (2, ((0, 0, 0), (0, 1, 1), (1, 0, 1), (1, 1, 5)))
    >>> (filled(late, ((0, 1), (0, 0), (1, 0), (1, 1)), ((3, 2), (2, 3))), spoiled(late, ((0, 0), (0, 1), (1, 0), (1, 1))))
    ((((0, 3), (2, 0)), ((0, 0), (0, 0))), (0, 0, 1, 1))
"""

STAGE_7 = """
    >>> from swaprings.ways import reached, walked
    >>> six = (3, ((0, 0, 0), (0, 1, 0), (1, 1, 0), (1, 2, 0), (2, 0, 0), (2, 2, 0)))
    >>> one = ((1, 0, 0), (0, 1, 0), (0, 0, 1))
    >>> (walked(six, one, ((((0, 0), (1, 1), (2, 2)), 1),)), len(reached(six, one, 2)), len(reached(six, one, 3)))
    (((0, 1, 0), (0, 0, 1), (1, 0, 0)), 1, 2)
"""

STAGE_8 = """
    >>> from swaprings.barriers import barrier_for, next_shifts, table_for
    >>> steep = (2, ((0, 0, 0), (1, 0, 0), (1, 1, 0)))
    >>> (next_shifts(steep, (0,)), barrier_for(steep, ((2, 1), (1, 2))), table_for(steep, ((1, 2), (2, 1))))
    ((0,), (0,), ((1, 0), (1, 1)))
"""

STAGE_9 = """
    >>> from swaprings.limits import least_of, most_of, upper
    >>> from swaprings.prices import least_price, worth
    >>> late = (2, ((0, 0, 0), (0, 1, 1), (1, 0, 1), (1, 1, 5)))
    >>> pair, five = ((1, 1), (1, 1)), ((2, 3), (1, 4))
    >>> (least_price(late, pair), worth(pair, ((0, 1), (0, 1))), most_of(late, five, (1, 1)), least_of(late, five, (1, 1)), upper(late, five, (1, 1), (0,)))
    (2, 2, 3, 2, 3)
"""

STAGE_10 = """
    >>> from swaprings.spares import spares_of, spare_way
    >>> free = (4, ((0, 0, 0), (0, 1, 0), (0, 3, 0), (1, 1, 0), (1, 2, 0), (1, 3, 0), (2, 0, 0), (2, 2, 0), (2, 3, 0), (3, 0, 0), (3, 1, 0), (3, 2, 0), (3, 3, 0)))
    >>> (spares_of(free), len(spare_way(free, ((0, 0), (1, 1), (2, 2)), (3, 3))))
    (((3, 3),), 4)
"""

STAGE_11 = """
    >>> from swaprings.choices import cheapest_choice, choices
    >>> six = (3, ((0, 0, 0), (0, 1, 0), (1, 1, 0), (1, 2, 0), (2, 0, 0), (2, 2, 0)))
    >>> options = ((0, 2, 0, 5), (0, 0, None, 3))
    >>> (list(choices(options)), cheapest_choice(six, options))
    ([(), (1,), (0,), (0, 1)], (1,))
"""

STAGE_12 = """
    >>> from swaprings.plans import is_endless, roster_for, row_fits
    >>> late = (2, ((0, 0, 0), (0, 1, 1), (1, 0, 1), (1, 1, 5)))
    >>> plan = (((1, 1), (2, 0), (1, 1)), (late, late))
    >>> (is_endless(plan), roster_for(plan), row_fits(plan, (0, 0, 1)), row_fits(plan, (0, 1, 1)))
    (False, (((1, 0), (1, 0)), ((1, 1), (0, 0))), True, False)
"""

STAGE_13 = """
    >>> from swaprings.rounds import pieces, rota_changed, rounds
    >>> late = (2, ((0, 0, 0), (0, 1, 1), (1, 0, 1), (1, 1, 5)))
    >>> plan, rota = (((1, 1), (2, 0)), (late, late)), (((0, 0), (1, 0)), (0, 1))
    >>> (rounds(rota), len(pieces(plan, rota)), rota_changed(rota, 1, 0, 1))
    (2, 1, (((0, 0), (1, 0)), (1, 0)))
"""

STAGE_14 = """
    >>> from swaprings.changes import Change
    >>> change = Change.between(((2, 1), (0, 2)), ((0, 3), (2, 0)))
    >>> (change.cells, list(change.turns()), (2 * change).people(), change[0, 1], -change == Change(((2, -2), (-2, 2))))
    (((-2, 2), (2, -2)), [(((0, 0), (1, 1)), 2)], 8, 2, True)
"""

STAGE_15 = """
    >>> from swaprings.claims import decide
    >>> late = (2, ((0, 0, 0), (0, 1, 1), (1, 0, 1), (1, 1, 5)))
    >>> six = (3, ((0, 0, 0), (0, 1, 0), (1, 1, 0), (1, 2, 0), (2, 0, 0), (2, 2, 0)))
    >>> (decide(("order", late))[0], decide(("order", six))[0], decide(("joined", six, 2, 2))[0])
    ('shown', 'broken', 'shown')
"""

STAGE_16 = """
    >>> from swaprings.checker import first_fault
    >>> late = (2, ((0, 0, 0), (0, 1, 1), (1, 0, 1), (1, 1, 5)))
    >>> order = ((0, 0), (0, 1), (1, 0), (1, 1))
    >>> (first_fault(("shown", ("order", late), order)), first_fault(("shown", ("order", late), order[1:] + order[:1])))
    (('four', 0), None)
"""

STAGE_17 = """
    >>> from swaprings.rosters import Roster
    >>> late = (2, ((0, 0, 0), (0, 1, 1), (1, 0, 1), (1, 1, 5)))
    >>> roster = Roster((late, late), ((0, 0, 1), (1, 1, 0)))
    >>> (roster.price(), roster.can_have(0, 1, 1), len(roster.settle()) > 0, roster.price(), roster.rows())
    (7, True, True, 4, ((0, 1, 0), (1, 0, 1)))
"""

STAGE_18 = """
    >>> from swaprings.texts import format_plan, format_rule, format_table
    >>> late = (2, ((0, 0, 0), (0, 1, 1), (1, 0, 1), (1, 1, 5)))
    >>> (format_rule(late), format_table(((0, 3), (2, 0))), format_plan((((1, 1),), (late,)))[:19])
    ('shifts 2\\nstep 0 0 0\\nstep 0 1 1\\nstep 1 0 1\\nstep 1 1 5\\n', 'row 0 3\\nrow 2 0\\n', 'shifts 2\\nneed 1 1\\nr')
"""


class Examples(unittest.TestCase):
    def run_example(self, name, text):
        test = doctest.DocTestParser().get_doctest(text, {}, name, None, 0)
        runner = doctest.DocTestRunner()
        told = []
        result = runner.run(test, out=told.append)
        self.assertEqual(result.failed, 0, "".join(told))
        self.assertGreater(result.attempted, 2)

    def test_stage_1(self):
        self.run_example("stage 1", STAGE_1)

    def test_stage_2(self):
        self.run_example("stage 2", STAGE_2)

    def test_stage_3(self):
        self.run_example("stage 3", STAGE_3)

    def test_stage_4(self):
        self.run_example("stage 4", STAGE_4)

    def test_stage_5(self):
        self.run_example("stage 5", STAGE_5)

    def test_stage_6(self):
        self.run_example("stage 6", STAGE_6)

    def test_stage_7(self):
        self.run_example("stage 7", STAGE_7)

    def test_stage_8(self):
        self.run_example("stage 8", STAGE_8)

    def test_stage_9(self):
        self.run_example("stage 9", STAGE_9)

    def test_stage_10(self):
        self.run_example("stage 10", STAGE_10)

    def test_stage_11(self):
        self.run_example("stage 11", STAGE_11)

    def test_stage_12(self):
        self.run_example("stage 12", STAGE_12)

    def test_stage_13(self):
        self.run_example("stage 13", STAGE_13)

    def test_stage_14(self):
        self.run_example("stage 14", STAGE_14)

    def test_stage_15(self):
        self.run_example("stage 15", STAGE_15)

    def test_stage_16(self):
        self.run_example("stage 16", STAGE_16)

    def test_stage_17(self):
        self.run_example("stage 17", STAGE_17)

    def test_stage_18(self):
        self.run_example("stage 18", STAGE_18)

    def test_readme(self):
        self.run_example("README.md", README.read_text("ascii"))


if __name__ == "__main__":
    unittest.main()
