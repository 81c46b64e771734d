"""The examples of the interface, as they stand there."""

import doctest
import unittest

STAGE_1 = """
    >>> from swaprings.rules import flipped, price_of, steps_of
    >>> six = (3, ((0, 0, 0), (0, 1, 0), (1, 1, 0), (1, 2, 0), (2, 0, 0), (2, 2, 0)))
    >>> (steps_of(six)[:3], price_of(six, 0, 1), price_of(six, 0, 2), steps_of(flipped(six))[:3])
    (((0, 0), (0, 1), (1, 1)), 0, None, ((0, 0), (0, 2), (1, 0)))
"""

STAGE_2 = """
    >>> from swaprings.tables import price_of_table, sums_of, turned
    >>> late = (2, ((0, 0, 0), (0, 1, 1), (1, 0, 1), (1, 1, 5)))
    >>> table = ((2, 1), (0, 2))
    >>> (sums_of(table), price_of_table(late, table), turned(late, table, ((0, 0), (1, 1)), 2))
    (((3, 2), (2, 3)), 11, ((0, 3), (2, 0)))
"""

STAGE_3 = """
    >>> from swaprings.orders import four_against, least_order, stuck_steps
    >>> late = (2, ((0, 0, 0), (0, 1, 1), (1, 0, 1), (1, 1, 5)))
    >>> six = (3, ((0, 0, 0), (0, 1, 0), (1, 1, 0), (1, 2, 0), (2, 0, 0), (2, 2, 0)))
    >>> steps = ((0, 0), (0, 1), (1, 0), (1, 1))
    >>> (least_order(late), four_against(late, steps, (0, 0)), least_order(six), len(stuck_steps(six)))
    (((0, 1), (0, 0), (1, 0), (1, 1)), (1, 1), None, 6)
"""


class Examples(unittest.TestCase):
    def run_example(self, name, text):
        test = doctest.DocTestParser().get_doctest(text, {}, name, None, 0)
        runner = doctest.DocTestRunner()
        told = []
        result = runner.run(test, out=told.append)
        self.assertEqual(result.failed, 0, "".join(told))
        self.assertGreater(result.attempted, 2)

    def test_stage_1(self):
        self.run_example("stage 1", STAGE_1)

    def test_stage_2(self):
        self.run_example("stage 2", STAGE_2)

    def test_stage_3(self):
        self.run_example("stage 3", STAGE_3)


if __name__ == "__main__":
    unittest.main()
