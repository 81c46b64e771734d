"""Point 20 and Stage 16: the checker tells the first fault of a certificate."""

import unittest
from copy import deepcopy
from random import Random

from swaprings.checker import first_fault
from swaprings.claims import decide
from swaprings.rings import trails
from tests.claim_samples import KINDS, MAKERS
from tests.samples import LATE, SIX, STEEP, odd_values, round_rule
from tests.slow_checker import first_fault_by_words

MOST = 10 ** 30
WORDS = ("more", "fewer", "table", "none", "bound", "less", "barrier", "step", "short", "shown", "broken")


def drawn_certificates(seed, many):
    """Certificates of each kind and verdict, with the truth of their claims."""
    random, found = Random(seed), []
    for kind in KINDS:
        for _ in range(many):
            claim, truth = MAKERS[kind](random)
            found.append((decide(claim), truth))
    return found


def bent(random, value, depth=0):
    """The value with one part bent, left out, doubled or exchanged, somewhere in it."""
    if isinstance(value, tuple) and value and random.randrange(6) and depth < 6:
        place = random.randrange(len(value))
        return value[:place] + (bent(random, value[place], depth + 1),) + value[place + 1:]
    if isinstance(value, tuple):
        act = random.randrange(6)
        place, other = (random.randrange(len(value)), random.randrange(len(value))) if value else (0, 0)
        if act == 0:
            return value[:place] + value[place + 1:]
        if act == 1:
            return value[:place + 1] + value[place:]
        if act == 2 and value:
            parts = list(value)
            parts[place], parts[other] = parts[other], parts[place]
            return tuple(parts)
        if act == 3:
            return tuple(sorted(value + value[:1], key=repr))
        if act == 4:
            return random.choice(((), None, 0, [], list(value), value + (0,), value + ((),), value + (None,)))
        return value[::-1]
    if isinstance(value, bool) or value is None:
        return random.choice((0, 1, None, ()))
    if isinstance(value, int):
        return random.choice((value + 1, value - 1, 0, 1, 2, -value, MOST, None, bool(value), str(value), (value,)))
    if isinstance(value, str):
        return random.choice(WORDS + (None, 0, ()))
    return value


class Form(unittest.TestCase):
    def test_no_triple(self):
        claim, order = ("order", LATE), ((0, 1), (0, 0), (1, 0), (1, 1))
        for value in (None, 5, (), ("shown", claim), ("shown", claim, order, 0), ["shown", claim, order], "abc", {}, (claim,)):
            self.assertEqual(first_fault(value), ("form",))
        self.assertIsNone(first_fault(("shown", claim, order)))

    def test_no_claim(self):
        for claim in (None, (), ("order",), ("order", LATE, 0), ["order", LATE], ("ORDER", LATE), ("order", (2, [])), 5):
            self.assertEqual(first_fault(("shown", claim, ())), ("claim",))
            self.assertEqual(first_fault((None, claim, None)), ("claim",))

    def test_another_verdict(self):
        order = ((0, 1), (0, 0), (1, 0), (1, 1))
        for verdict in (None, "", "Shown", "shown ", True, 1, ("shown",), ["shown"], {}, "unknown"):
            self.assertEqual(first_fault((verdict, ("order", LATE), order)), ("paper",))
        self.assertEqual(first_fault(("broken", ("order", LATE), order)), ("paper",))

    def test_any_value(self):
        random = Random(250)
        certificates = drawn_certificates(251, 2)
        for value in odd_values():
            self.assertIn(first_fault(value), [("form",), ("claim",)])
            self.assertEqual(first_fault((value, value, value)), ("claim",))
            for (verdict, claim, paper), _ in certificates:
                self.assertEqual(first_fault((value, claim, paper)), ("paper",))
                self.assertEqual(first_fault((verdict, value, paper)), ("claim",))
                for other in ("shown", "broken"):
                    told = first_fault((other, claim, value))
                    self.assertEqual(told, first_fault_by_words(other, claim, value))
            for (verdict, claim, paper), _ in random.sample(certificates, 8):
                for place in range(len(paper)):
                    part = paper[:place] + (value,) + paper[place + 1:]
                    self.assertEqual(first_fault((verdict, claim, part)), first_fault_by_words(verdict, claim, part))


class EachFault(unittest.TestCase):
    """For each kind of claim each fault that is listed, by hand."""

    def told(self, verdict, claim, papers):
        for paper, fault in papers:
            self.assertEqual(first_fault((verdict, claim, paper)), fault, paper)
            self.assertEqual(first_fault_by_words(verdict, claim, paper), fault, paper)

    def test_order(self):
        order = ((0, 1), (0, 0), (1, 0), (1, 1))
        self.told("shown", ("order", LATE), [
            (order, None), (((0, 0),) + order[:1] + order[2:], ("four", 0)), (order[:3], ("paper",)),
            (((0, 1), (1, 1), (0, 0), (1, 0)), None), (order + order[:1], ("paper",)), (list(order), ("paper",)),
            (((1, 1), (0, 1), (1, 0), (0, 0)), ("four", 0)),
            (order[:3] + (order[0],), ("paper",)), (((0, True),) + order[1:], ("paper",)), ((), ("paper",)),
        ])
        self.told("shown", ("order", (3, ())), [((), None), (((0, 0),), ("paper",))])
        rows = decide(("order", SIX))[2]
        self.told("broken", ("order", SIX), [
            (rows, None), (rows[1:], ("four", 0)), (rows[:-1], ("four", 3)), ((), ("paper",)),
            (rows[::-1], ("paper",)), (rows + rows[-1:], ("paper",)), (rows[:1] + rows[:1], ("paper",)),
            (((0, 0, 0, 1),) + rows[1:], ("paper",)), (((0, 0, 1, 0),) + rows[1:], ("paper",)),
            (((0, 0, 1, 1),) + rows[1:], ("four", 0)), (rows[:2] + ((0, 2, 1, 0),) + rows[2:], ("four", 2)),
            (rows[:5] + ((2, 1, 0, 0),) + rows[5:], ("four", 5)), (rows[:5] + ((2, 2, 1, 1),), ("four", 5)),
            (rows[:5] + ((2, 2, 3, 1),), ("paper",)), (rows[:5] + ((2, 2, 1),), ("paper",)),
        ])

    def test_crew(self):
        ring = ((0, 0), (1, 1), (2, 2))
        held = trails(SIX, 3)
        two = trails(LATE, 2)
        self.told("shown", ("crew", SIX, 3), [
            (((ring,), held), None), (((), held), ("paper",)), (((ring, ring), held), ("paper",)),
            (((ring[1:] + ring[:1],), held), ("ring",)), (((((0, 0), (2, 2), (1, 1)),), held), ("ring",)),
            (((((0, 0),),), held), ("ring",)), ((((),), held), ("paper",)), (((((0, 0), (1, 3)),), held), ("paper",)),
            (((ring[:1] * 70,), ()), ("ring",)), (((ring,), ()), ("start", 0)), (((ring,), held[1:]), ("start", 0)),
            (((ring,), [held]), ("paper",)), (((ring,), held[::-1]), ("paper",)), (((ring,), held + ((),)), ("paper",)),
            (((ring,), tuple(trail for trail in held if trail != (2,))), ("start", 2)),
            (((ring,), tuple(sorted(held + ((0, 2, 1),)))), ("trail", 5)),
            (((ring,), held, ()), ("paper",)),
        ])
        told = [("next",) + tuple(fault) for fault in ((0, 0, 2),)]
        without = tuple(trail for trail in held if trail != (0, 0, 2))
        self.told("shown", ("crew", SIX, 3), [(((ring,), without), told[0])])
        self.told("shown", ("crew", SIX, 2), [
            (((), held), ("close", held.index((0, 0, 2, 2, 1)), 1)), (((ring,), held), ("paper",)),
        ])
        self.told("shown", ("crew", LATE, 2), [(((), two), None), (((), ((0,), (1,))), ("next", 0, 0, 1))])
        self.told("shown", ("crew", SIX, 4), [(((ring,), held), ("crew",)), (((ring[:2],), held), ("ring",))])
        self.told("broken", ("crew", SIX, 2), [
            (("more", ring), None), (("more", ring[::-1]), ("ring",)), (("fewer", held), ("paper",)),
            (("less", ring), ("paper",)), (("more", ()), ("paper",)), (("more", ring, ()), ("paper",)), (ring, ("paper",)),
        ])
        self.told("broken", ("crew", SIX, 3), [
            (("more", ring), ("crew",)), (("fewer", held), ("close", held.index((0, 0, 2, 2, 1)), 1)),
            (("fewer", ()), ("start", 0)),
        ])
        self.told("broken", ("crew", SIX, 4), [(("fewer", held), None), (("fewer", held[:-1]), ("start", 2))])
        self.told("broken", ("crew", LATE, 3), [(("fewer", two), None), (("more", ((0, 0), (1, 1))), ("ring",))])

    def test_lists_at_their_bounds(self):
        single = tuple((i,) for i in range(3))
        long = tuple(sorted({(0,) * many for many in range(1, 301)}))
        self.told("shown", ("joined", SIX, 1, 2), [
            (single, None), (long, ("trail", 1)), (tuple(sorted(long + ((0,) * 301,))), ("paper",)),
            ((single[0], single[2]), ("start", 1)), (single[::-1], ("paper",)), (single + ((3,),), ("paper",)),
        ])

    def test_joined(self):
        ring, held = ((0, 0), (1, 1), (2, 2)), trails(SIX, 3)
        single, pairs = tuple((i,) for i in range(3)), trails(SIX, 2)
        for people in (0, 1):
            self.told("shown", ("joined", SIX, people, 2), [(single, None), (held, None), ((), ("start", 0))])
        self.told("shown", ("joined", SIX, 2, 2), [(pairs, None), (single, ("next", 0, 0, 2)), (held, None)])
        self.told("shown", ("joined", SIX, 3, 2), [
            (pairs, ("next", 1, 2, 1)), (held, ("close", held.index((0, 0, 2, 2, 1)), 1)),
        ])
        self.told("shown", ("joined", SIX, MOST, 3), [(held, None)])
        self.told("broken", ("joined", SIX, 3, 2), [
            (ring, None), (ring[:2], ("ring",)), (((0, 0), (2, 2), (1, 1)), ("ring",)), ((), ("paper",)),
        ])
        self.told("broken", ("joined", SIX, 2, 2), [(ring, ("crew",))])
        self.told("broken", ("joined", SIX, MOST, 3), [(ring, ("crew",))])
        five = tuple((i, i) for i in range(5))
        self.told("broken", ("joined", round_rule(5), 5, 4), [(five, None)])

    def test_way(self):
        table, other = ((2, 1), (0, 2)), ((0, 3), (2, 0))
        ring, back = ((0, 0), (1, 1)), ((0, 1), (1, 0))
        claim = ("way", LATE, table, other, 2)
        self.told("shown", claim, [
            (((ring, 2),), None), (((ring, 1), (ring, 1)), None), (((ring, 3),), ("turn", 0)), (((ring, 1),), ("end",)),
            ((), ("end",)), (((ring, 0),), ("paper",)), (((ring, True),), ("paper",)), (((ring, MOST + 1),), ("paper",)),
            (((ring, 1), (ring, 2)), ("turn", 1)), (((ring[::-1], 2),), ("turn", 0)), (((ring[:1], 1),), ("turn", 0)),
            (((ring, 2), (back, 3)), ("turn", 1)), (((ring, 2), (back, 2), (ring, 2)), None), ((((), 1),), ("paper",)),
            (((ring, 2), (back, 1)), ("end",)), (((ring, 2), (back, 1), (ring, 1)) * 166, ("turn", 3)),
            (((ring, 1), (back, 1)) * 249 + ((ring, 2),), None), (((ring, 1), (back, 1)) * 250, ("end",)),
            (((ring, 1), (back, 1)) * 250 + ((ring, 2),), ("paper",)),
            ([(ring, 2)], ("paper",)), (((ring, 2, 0),), ("paper",)), (((((0, 0), (1, 2)), 1),), ("paper",)),
        ])
        one, turned = ((1, 0, 0), (0, 1, 0), (0, 0, 1)), ((0, 1, 0), (0, 0, 1), (1, 0, 0))
        three = ((0, 0), (1, 1), (2, 2))
        self.told("shown", ("way", SIX, one, turned, 3), [(((three, 1),), None)])
        self.told("shown", ("way", SIX, one, turned, 2), [(((three, 1),), ("turn", 0))])
        self.told("broken", ("way", SIX, one, turned, 2), [
            ((one,), None), ((turned,), ("start",)), ((turned, one), ("end",)), ((one, turned), ("paper",)), ((), ("paper",)),
            ((one, one), ("paper",)), ([one], ("paper",)), ((((1, 0, 0), (0, 1, 0), (0, 1, 0)),), ("paper",)),
            ((((1, 0, 0), (0, 0, 1), (0, 1, 0)), one)[:1], ("paper",)), ((((0, 0, 1), (0, 1, 0), (1, 0, 0)), one), ("paper",)),
        ])
        self.told("broken", ("way", SIX, one, turned, 3), [
            ((one,), ("leads", 0, three)), ((turned, one), ("end",)),
            ((turned,), ("start",)),
        ])
        self.told("broken", ("way", LATE, table, other, 2), [((((1, 2), (1, 1)), table), ("leads", 0, ring)),
                                                             ((table,), ("leads", 0, ring))])

    def test_table(self):
        sums = ((2, 1), (2, 1))
        self.told("shown", ("table", STEEP, sums), [
            (((2, 0), (0, 1)), None), (((1, 1), (1, 0)), ("barred", 0, 1)), (((1, 0), (0, 1)), ("row", 0)),
            (((2, 0), (1, 1)), ("row", 1)), (((2, 0), (1, 0)), ("column", 0)), (((2, 0), (0, -1)), ("paper",)),
            (((2, 0), (0, True)), ("paper",)), (((2, 0),), ("paper",)), (((2, 0), [0, 1]), ("paper",)),
            (((2, MOST), (0, 1)), ("barred", 0, 1)), (((2, 0), (0, MOST + 1)), ("paper",)),
        ])
        self.told("broken", ("table", STEEP, ((2, 1), (1, 2))), [
            ((0,), None), ((), ("barrier",)), ((1,), ("barrier",)), ((0, 1), ("barrier",)), ((1, 0), ("paper",)),
            ((0, 0), ("paper",)), ((2,), ("paper",)), ((True,), ("paper",)), ([0], ("paper",)), (None, ("paper",)),
        ])

    def test_price(self):
        pair = ((1, 1), (1, 1))
        good, dear, potentials = ((0, 1), (1, 0)), ((1, 0), (0, 1)), ((0, 1), (0, 1))
        self.told("shown", ("price", LATE, pair, 2), [
            ((good, potentials), None), ((dear, potentials), ("price",)), ((good, ((0, 1), (0, 0))), ("worth",)),
            ((good, ((1, 1), (0, 0))), ("step", 0, 0)), ((good, ((0, 1), (0, 10 ** 6 + 1))), ("paper",)),
            ((good, ((0, -10 ** 6), (0, -10 ** 6))), ("worth",)), ((good, ((0, 3), (-1, 2))), ("step", 0, 1)),
            ((((1, 1), (0, 0)), potentials), ("row", 0)), ((good, ((0, 1), (0, True))), ("paper",)), ((good,), ("paper",)),
            ((good, ((0, 1), (0, 1, 0))), ("paper",)), ((good, potentials, 0), ("paper",)), ((0,), ("paper",)),
        ])
        self.told("shown", ("price", LATE, pair, None), [((0,), ("barrier",)), ((good, potentials), ("paper",))])
        self.told("broken", ("price", LATE, pair, None), [
            (("table", dear), None), (("table", ((1, 0), (1, 0))), ("column", 0)), (("none", (0,)), ("paper",)),
            (("bound", potentials), ("paper",)), (("table", dear, 0), ("paper",)), (("tables", dear), ("paper",)),
        ])
        self.told("broken", ("price", LATE, pair, 5), [
            (("table", good), None), (("table", dear), ("price",)), (("none", (0,)), ("barrier",)),
            (("bound", potentials), ("worth",)),
        ])
        self.told("broken", ("price", LATE, pair, 1), [
            (("bound", potentials), None), (("bound", ((0, 1), (0, 0))), ("worth",)), (("table", good), ("price",)),
            (("bound", ((1, 1), (1, 1))), ("step", 0, 0)),
        ])
        no_table = ((2, 1), (1, 2))
        self.told("shown", ("price", STEEP, no_table, None), [((0,), None), ((1,), ("barrier",))])
        self.told("broken", ("price", STEEP, no_table, 0), [(("none", (0,)), None), (("none", ()), ("barrier",))])

    def test_most_and_least(self):
        sums = ((2, 3), (1, 4))
        upper, lower = ((1, 1), (0, 3)), ((0, 2), (1, 2))
        self.told("shown", ("most", LATE, sums, (1, 1), 3), [
            ((upper, (0,)), None), ((lower, (0,)), ("count",)), ((upper, ()), ("bound",)), ((upper, (1,)), ("paper",)),
            ((upper, (0, 1)), ("paper",)), ((((1, 0), (0, 3)), (0,)), ("row", 0)), ((upper, None), ("paper",)),
            ((((1, 1), (0, 2)), (0,)), ("row", 1)),
        ])
        self.told("shown", ("least", LATE, sums, (1, 1), 2), [
            ((lower, (1,)), None), ((upper, (1,)), ("count",)), ((lower, (0, 1)), ("bound",)), ((lower, ()), ("paper",)),
            ((lower, (0,)), ("paper",)),
        ])
        self.told("shown", ("least", LATE, sums, (0, 1), 1), [
            ((upper, (0,)), None), ((upper, (0, 1)), ("bound",)), ((lower, (0,)), ("count",)), ((upper, ()), ("paper",)),
        ])
        self.told("shown", ("least", LATE, sums, (0, 0), 0), [
            ((lower, ()), None), ((lower, (0,)), ("paper",)), ((upper, ()), ("count",)), ((lower, []), ("paper",)),
        ])
        self.told("shown", ("most", LATE, sums, (0, 0), 0), [((lower, ()), ("bound",)), ((upper, ()), ("count",))])
        self.told("broken", ("most", LATE, sums, (1, 1), 2), [
            (("table", upper), None), (("table", lower), ("count",)), (("bound", (0,)), ("bound",)),
            (("none", ()), ("barrier",)),
        ])
        self.told("broken", ("most", LATE, sums, (1, 1), 4), [
            (("bound", (0,)), None), (("bound", ()), ("bound",)), (("bound", (1,)), ("paper",)), (("table", upper), ("count",)),
        ])
        self.told("broken", ("least", LATE, sums, (1, 1), 3), [(("table", lower), None), (("table", upper), ("count",))])
        self.told("broken", ("least", LATE, sums, (1, 1), 0), [
            (("bound", (1,)), None), (("bound", (0, 1)), ("bound",)), (("bound", ()), ("paper",)),
        ])
        for kind in ("most", "least"):
            self.told("broken", (kind, LATE, sums, (1, 1), None), [
                (("table", upper), None), (("bound", (1,) if kind == "least" else (0,)), ("paper",)), (("none", (0,)), ("paper",)),
                (("table", ((9, 9), (9, 9))), ("row", 0)),
            ])
            no_table = ((2, 1), (1, 2))
            self.told("shown", (kind, STEEP, no_table, (0, 0), None), [((0,), None), ((1,), ("barrier",))])
            self.told("broken", (kind, STEEP, no_table, (0, 0), 1), [(("none", (0,)), None), (("none", (1,)), ("barrier",))])
            self.told("shown", (kind, LATE, sums, (1, 1), None), [((0,), ("barrier",)), ((upper, (0,)), ("paper",))])

    def test_mend(self):
        options = ((0, 2, 0, 5), (0, 0, None, 3))
        choice, order, sets = decide(("mend", SIX, options, 3))[2]
        dear = decide(("mend", SIX, options[:1], 5))[2]
        self.assertEqual((choice, len(sets)), ((1,), 1))
        self.told("shown", ("mend", SIX, options, 3), [
            ((choice, order, sets), None), (((0,), dear[1], sets), ("cost",)), (((), order, sets), ("paper",)),
            ((choice, order[::-1], sets), ("four", 0)),
            ((choice, order, ()), ("many",)), ((choice, order, sets + sets), ("many",)), ((choice, order, ((),)), ("paper",)),
            ((choice, order, (sets[0][1:],)), ("set", 0, 0)), ((choice, order), ("paper",)), (((2,), order, sets), ("paper",)),
            (((1, 1), order, sets), ("paper",)), (((True,), order, sets), ("paper",)), (sets, ("paper",)),
        ])
        self.told("broken", ("mend", SIX, options, 4), [
            (("less", choice, order), None), (("less", (0,), dear[1]), ("cost",)), (("more", sets), ("many",)),
            (("less", choice, order, ()), ("paper",)),
        ])
        self.told("broken", ("mend", SIX, options, None), [
            (("less", choice, order), None), (("less", (0,), dear[1]), None), (("more", sets), ("paper",)),
        ])
        self.told("broken", ("mend", SIX, options, 2), [
            (("more", sets), None), (("more", ()), ("many",)), (("more", (sets[0][:-1],)), ("set", 0, 3)),
            (("less", choice, order), ("cost",)),
        ])
        same = ((0, 0, 5, 1),) * 3
        every = decide(("mend", SIX, same, None))[2]
        self.assertEqual(len(every), 4)
        self.told("shown", ("mend", SIX, same, None), [
            (every, None), (every[1:], ("many",)), ((), ("many",)), (every[:2] + (every[2][1:],) + every[3:], ("set", 2, 0)),
        ])
        self.told("shown", ("mend", LATE, ((0, 0, 5, 1),) * 2, 0), [(((), ((0, 1), (0, 0), (1, 0), (1, 1)), ()), None)])
        self.told("shown", ("mend", LATE, ((0, 1, 99, 0),) * 2, 0), [
            (((0,), ((0, 1), (0, 0), (1, 0), (1, 1)), ()), ("four", 0)), (((0, 1), ((0, 1), (0, 0), (1, 0), (1, 1)), ()), ("paper",)),
        ])

    def test_plan(self):
        plan = (((1, 1), (2, 0), (1, 1)), (LATE, LATE))
        roster = (((1, 0), (1, 0)), ((1, 1), (0, 0)))
        self.told("shown", ("plan", plan), [
            (roster, None), (roster[::-1], ("table", 0, ("row", 0))), (roster[:1], ("paper",)), (roster * 2, ("paper",)),
            ((roster[0], ((1, 0), (0, 1))), ("table", 1, ("row", 0))), ((roster[0], ((2, 0), (0, 0))), ("table", 1, ("column", 0))),
            (list(roster), ("paper",)), ((roster[0], ((1, 1), (0, -1))), ("paper",)),
        ])
        barred = (((0, 3), (1, 2), (2, 1)), (STEEP, STEEP))
        self.told("shown", ("plan", barred), [(((((0, 0), (1, 2)), ((1, 1), (1, 0)))), ("table", 1, ("barred", 0, 1))[:2]
                                               + (("barred", 0, 1),))])
        self.told("broken", ("plan", (((2, 1), (2, 1), (1, 2)), (STEEP, STEEP))), [
            ((1, (0,)), None), ((0, (0,)), ("barrier",)), ((1, ()), ("barrier",)), ((2, (0,)), ("paper",)), ((1,), ("paper",)),
            ((-1, (0,)), ("paper",)), ((True, (0,)), ("paper",)), ((1, [0]), ("paper",)), ((1, (0,), 0), ("paper",)),
        ])

    def test_row(self):
        plan = (((1, 1), (2, 0), (1, 1)), (LATE, LATE))
        others = (((0, 0), (1, 0)), ((0, 1), (0, 0)))
        self.told("shown", ("row", plan, (0, 0, 0)), [
            (others, None), ((((1, 0), (0, 0)), others[1]), ("table", 0, ("row", 0))), (others[:1], ("paper",)),
        ])
        self.told("shown", ("row", plan, (0, 1, 1)), [(others, ("short", 1))])
        self.told("broken", ("row", plan, (0, 1, 1)), [
            (("short", 1), None), (("short", 0), ("short",)), (("step", 0), ("step",)), (("step", 2), ("paper",)),
            (("short", 3), ("paper",)), (("barrier", 0, ()), ("barrier",)), (("barrier", 2, ()), ("paper",)),
            (("short", True), ("paper",)), (("short",), ("paper",)), (("short", 1, ()), ("paper",)), (("barrier", 0), ("paper",)),
            (("barrier", 0, (0,)), ("barrier",)), (("barrier", 1, (0,)), None),
        ])
        steep = (((1, 1), (1, 1)), (STEEP,))
        self.told("shown", ("row", steep, (0, 1)), [((((0, 0), (1, 0)),), ("step", 0))])
        self.told("broken", ("row", steep, (0, 1)), [(("step", 0), None), (("short", 1), ("short",))])
        self.told("broken", ("row", steep, (1, 0)), [
            (("barrier", 0, (0,)), None), (("barrier", 0, (1,)), ("barrier",)), (("step", 0), ("step",)),
        ])
        endless = (((1, 1), (1, 1)), (LATE, STEEP))
        good = (((0, 0), (0, 1)), ((1, 0), (0, 1)))
        self.told("shown", ("row", endless, (0, 0)), [(good, None), ((good[0], good[0]), ("table", 1, ("row", 0)))])
        self.told("broken", ("row", endless, (0, 0)), [(("step", 1), ("paper",)), (("barrier", 1, (0,)), ("barrier",))])
        self.told("broken", ("row", (((1, 1),), (LATE,)), (0,)), [(("step", 0), ("paper",)), (("short", 0), ("short",))])

    def test_rounds(self):
        plan, rota = (((1, 1), (2, 0)), (LATE, LATE)), (((0, 0), (1, 0)), (0, 1))
        pieces = (((0, 0), (0, 1), (1, 0)),)
        self.told("shown", ("rounds", plan, rota, 1), [
            ((((1, 0, 1),), pieces), None), (((), pieces), ("rounds",)), ((((0, 0, 1),), pieces), ("change", 0)),
            ((((1, 0, 1), (1, 1, 1)), pieces), ("change", 1)), ((((1, 0, 1),) * 99, pieces), None),
            ((((1, 0, 1),) * 100, pieces), ("rounds",)), ((((1, 0, 1),) * 101, pieces), ("paper",)), ((((2, 0, 1),), pieces), ("paper",)), ((((1, 0, 2),), pieces), ("paper",)),
            ((((1, 0),), pieces), ("paper",)), ((((1, 0, 1),), ()), ("lacks",)), ((((1, 0, 1),), ((),)), ("paper",)),
            ((((1, 0, 1),), (((0, 0), (1, 0), (1, 1)),)), ("place", 0)), ((((1, 0, 1),), (((0, 1), (0, 0), (1, 0)),)), ("paper",)),
            ((((1, 0, 1),), (((0, 0), (1, 0)),)), ("lacks",)), ((((1, 0, 1),), (((0, 0), (1, 0)), ((0, 1),))), ("joined", 0, 1)),
            ((((1, 0, 1),), (((0, 0), (1, 0)), ((0, 0), (0, 1)))), ("place", 1)), ((((1, 0, 1),), (((2, 0),),)), ("paper",)),
            ((((1, 0, 1),), ((0, 0),)), ("paper",)),
        ])
        self.told("shown", ("rounds", plan, rota, 2), [(((), pieces), ("count",)), ((((1, 0, 1),), pieces), ("rounds",))])
        self.told("broken", ("rounds", plan, rota, 2), [
            (("fewer", ((1, 0, 1),)), None), (("fewer", ()), ("rounds",)), (("more", pieces), ("count",)),
            (("fewer", ((1, 0, 1), (0, 0, 1))), ("change", 1)), (("less", ()), ("paper",)),
        ])
        apart = (((1, 1), (1, 1)), (LATE, LATE)), (((0, 0), (1, 1)), (0, 1))
        two = (((0, 0), (1, 0)), ((0, 1), (1, 1)))
        self.told("broken", ("rounds", *apart, 1), [
            (("more", two), None), (("more", two[::-1]), None), (("more", two[:1]), ("lacks",)),
            (("more", (((0, 0),), ((1, 0),), two[1])), ("joined", 0, 1)), (("fewer", ()), ("rounds",)),
            (("more", (((0, 0),), two[1], ((1, 0),))), ("joined", 0, 2)), (("more", (two[0] + two[1],)), ("paper",)),
            (("more", (tuple(sorted(two[0] + two[1])),)), ("count",)),
        ])

    def test_have(self):
        rules, rows = (LATE, LATE), ((0, 0, 1), (1, 1, 0))
        self.told("shown", ("have", rules, rows, (), 0, 1, 1), [
            (((0, (0, 1)),), None), ((), ("shift",)), (((0, (0, 1)),) * 99, None), (((0, (0, 1)),) * 101, ("paper",)),
            (((0, (0, 1)),) * 100, ("shift",)), (((2, (0, 1)),), ("paper",)), (((0, (0, 0)),), ("paper",)),
            (((0, (0,)),), ("paper",)), (((0, (0, 2)),), ("paper",)), (((0, [0, 1]),), ("paper",)), (((1, (0, 1)),), ("shift",)),
        ])
        six = (SIX,), ((0, 0), (1, 1), (2, 2), (0, 1))
        self.told("shown", ("have", *six, (3,), 0, 1, 1), [
            (((0, (0, 1, 2)),), None), (((0, (0, 3)),), ("deed", 0)), (((0, (0, 2, 1)),), ("deed", 0)),
            (((0, (0, 1, 2)), (0, (0, 1))), ("deed", 1)), (((0, (0, 1, 2, 3)),), ("deed", 0)),
        ])
        claim = ("have", (SIX,), ((0, 0), (1, 1), (2, 2)), (1,), 0, 1, 1)
        right = decide(claim)[2]
        self.assertEqual((right[0], [block[:3] for block in right[1]]), (((0,), (0,)), [(0, 0, 1)]))
        block = right[1][0]
        self.told("broken", claim, [
            (right, None), ((((), (0,)), ()), ("start",)), ((((1,), (0,)), ()), ("start",)), ((((0,), (0, 1)), ()), ("shift",)),
            (((0,), (0,)), ("paper",)), ((right[0], ()), ("wall", 0, 0, 1)), ((right[0], right[1] * 2), ("paper",)),
            ((right[0], right[1] + ((0, 0, 1, (1,)),)), ("paper",)),
            ((right[0], right[1] + ((0, 1, 2, ()),)), ("more", 1)), ((right[0], ((0, 0, 0, ()),) + right[1]), ("more", 0)),
            ((right[0], (block[:3] + ((),),)), None), ((right[0], (block[:3] + ((1, 2),),)), ("bound", 0)),
            ((right[0], (block[:3] + ((0,),),)), ("paper",)), ((right[0][:1], right[1]), ("paper",)),
            ((right[0] + ((0,),), right[1]), ("paper",)), ((((0, 0), (0,)), right[1]), ("paper",)),
            ((right[0], ((1, 0, 1, ()),)), ("paper",)), ((right[0], (block[:3],)), ("paper",)),
            ((((0, 2), (0,)), right[1]), ("wall", 0, 2, 2)),
        ])
        self.told("broken", ("have", rules, rows, (), 0, 0, 1), [
            ((((0,),), ()), None), ((((0, 1),), ()), ("shift",)), ((((1,),), ()), ("start",)),
            ((((0,),), ((0, 0, 1, ()),)), ("more", 0)), ((((0,), (0,)), ()), ("paper",)),
        ])


class Drawn(unittest.TestCase):
    def test_right_papers(self):
        for (verdict, claim, paper), truth in drawn_certificates(252, 25):
            self.assertEqual(verdict == "shown", truth)
            self.assertIsNone(first_fault((verdict, claim, paper)))
            self.assertIsNone(first_fault_by_words(verdict, claim, paper))

    def test_bent_papers(self):
        random, seen = Random(253), {}
        for (verdict, claim, paper), truth in drawn_certificates(254, 30):
            for _ in range(30):
                part, told_verdict = paper, verdict
                for _ in range(random.choice((1, 1, 1, 2, 3))):
                    part = bent(random, part)
                if random.randrange(15) == 0:
                    told_verdict = random.choice(("shown", "broken"))
                told = first_fault((told_verdict, claim, part))
                self.assertEqual(told, first_fault_by_words(told_verdict, claim, part), (told_verdict, claim, part))
                if told is None:
                    self.assertEqual(told_verdict == "shown", truth, (claim, part))
                key = claim[0], told and told[0]
                seen[key] = seen.get(key, 0) + 1
        self.assertGreater(len(seen), 60, seen)

    def test_papers_of_other_claims(self):
        # A wrong verdict has no paper that is accepted, wherever the paper comes from.
        random = Random(255)
        by_kind = {kind: [] for kind in KINDS}
        for (verdict, claim, paper), truth in drawn_certificates(256, 40):
            by_kind[claim[0]].append((verdict, claim, paper, truth))
        accepted = 0
        for kind, told in by_kind.items():
            for verdict, claim, paper, truth in told:
                for other_verdict, _, other_paper, _ in random.sample(told, 15):
                    fault = first_fault((other_verdict, claim, other_paper))
                    self.assertEqual(fault, first_fault_by_words(other_verdict, claim, other_paper))
                    if fault is None:
                        accepted += 1
                        self.assertEqual(other_verdict == "shown", truth)
                for wrong in ("shown", "broken"):
                    if (wrong == "shown") != truth:
                        self.assertIsNotNone(first_fault((wrong, claim, paper)))
        self.assertGreater(accepted, 50)

    def test_papers_of_claims_that_tell_another_number(self):
        # The paper of the right number, laid to claims that tell another one.
        random = Random(257)
        places = {"crew": 2, "joined": 2, "price": 3, "most": 4, "least": 4, "mend": 3, "rounds": 3, "have": 6}
        for (verdict, claim, paper), _ in drawn_certificates(258, 30):
            place = places.get(claim[0])
            if place is None:
                continue
            for _ in range(5):
                other = claim[:place] + (random.choice((2, 3, 4, 5, 1, 0, None)),) + claim[place + 1:]
                told = first_fault((verdict, other, paper))
                if told == ("claim",):
                    continue
                self.assertEqual(told, first_fault_by_words(verdict, other, paper))
                if told is None:
                    self.assertEqual(decide(other)[0], verdict)


class Arguments(unittest.TestCase):
    def test_by_name_and_it_stays(self):
        order = ((0, 0), (0, 1), (1, 0), (1, 1))
        self.assertEqual(first_fault(certificate=("shown", ("order", LATE), order)), ("four", 0))
        wrong = ["shown", ["order", {"a": [LATE]}], [1, [2]]]
        before = deepcopy(wrong)
        for value in (wrong, tuple(wrong), ("shown", ("order", LATE), wrong)):
            first_fault(value)
        self.assertEqual(wrong, before)


if __name__ == "__main__":
    unittest.main()
