from itertools import product

from heldbest.duals import gain
from heldbest.errors import NotAccepted, OutOfRange
from heldbest.leastrows import least_prices
from heldbest.plain import plain_bests
from heldbest.lattices import accepted_rows
from heldbest.reasons import reason, reason_fault
from heldbest.solving import solve
from heldbest.tables import Table
from tests.helping import HUGE, Case, example
from tests.plainly import some_tables
from tests.test_solving import BROAD, MIDDLE, WIDE

SMALL = [example(), *some_tables(71, 40)]
BEST = (0, 1, -1)


def plain_reason_fault(table, held, prices, desk, steps):
    """The first fault, straight from its description."""
    if prices[desk] == 0:
        return ("count",) if steps else None
    if not steps:
        return ("count",)
    for k, (seeker, new) in enumerate(steps):
        own = held[seeker]
        if own == new:
            return ("desk", k)
        if k == 0 and own != -1 and prices[own] != 0:
            return ("link", k)
        if k > 0 and own != steps[k - 1][1]:
            return ("link", k)
        if table.rows[seeker][new] - prices[new] != gain(table, seeker, own, prices):
            return ("tight", k)
    return None if steps[-1][1] == desk else ("end",)


class ReasonTest(Case):
    def test_least_rows_have_a_reason_for_each_desk(self):
        for table in SMALL:
            row = least_prices(table)
            for held in plain_bests(table):
                for desk in range(table.desks):
                    steps = reason(table, held, row, desk)
                    self.assertIsNone(plain_reason_fault(table, held, row, desk, steps))
                    self.assertEqual(steps == (), row[desk] == 0)
                    self.answers(steps, reason, table, held, row, desk)
                    self.answers(None, reason_fault, table, held, row, desk, steps)

    def test_other_rows_have_none_for_some_desk(self):
        for table in SMALL:
            least = least_prices(table)
            for row in accepted_rows(table):
                for held in plain_bests(table):
                    steps = [reason(table, held, row, desk) for desk in range(table.desks)]
                    self.assertEqual(None in steps, row != least)
                    for desk, price in enumerate(row):
                        if steps[desk] is not None:
                            self.assertEqual(price, least[desk])
                            self.assertIsNone(plain_reason_fault(table, held, row, desk, steps[desk]))

    def test_no_short_reason_is_missed(self):
        for table in SMALL:
            for row in accepted_rows(table):
                held = plain_bests(table)[0]
                pairs = list(product(range(table.seekers), range(table.desks)))
                for desk in range(table.desks):
                    if reason(table, held, row, desk) is None:
                        for steps in [*product(pairs, repeat=1), *product(pairs, repeat=2)]:
                            self.assertIsNotNone(plain_reason_fault(table, held, row, desk, steps))

    def test_great_tables(self):
        for table in (WIDE, BROAD, MIDDLE):
            held, row = solve(table)
            for desk in range(6):
                steps = reason(table, held, row, desk)
                self.assertIsNone(plain_reason_fault(table, held, row, desk, steps))

    def test_the_example(self):
        self.answers(((2, 1),), reason, example(), BEST, [3, 2], 1)
        self.answers(((2, 1), (1, 0)), reason, example(), BEST, [3, 2], 0)
        self.answers(None, reason, example(), BEST, [4, 2], 0)
        self.answers(((2, 1),), reason, example(), BEST, [4, 2], 1)

    def test_price_zero(self):
        self.answers((), reason, Table([2], [[5]], 1), [0], [0], 0)
        self.answers((), reason, Table([1], [], 1), [], [0], 0)

    def test_a_first_seeker_that_holds_a_desk_of_price_zero(self):
        table = Table([1, 2], [[9, 1], [8, 3]], 2)
        self.answers(((1, 0),), reason, table, [0, 1], [5, 0], 0)
        self.answers(None, reason, table, [0, 1], [6, 0], 0)

    def test_worths_are_not_looked_at(self):
        table = Table([1, 1], [[9, 0], [8, 0], [0, 0]], 3)
        self.answers(None, reason_fault, table, [0, -1, -1], [8, 0], 0, [(1, 0)])
        self.answers(("tight", 0), reason_fault, table, [0, -1, -1], [8, 0], 0, [(2, 0)])
        self.answers(("end",), reason_fault, table, [0, -1, -1], [8, 0], 0, [(2, 1)])

    def test_by_name(self):
        self.answers(((2, 1),), reason, table=example(), held=BEST, prices=[3, 2], desk=1)


class ReasonFaultTest(Case):
    def test_every_short_list(self):
        for table, held, row in (
            (example(), BEST, (3, 2)),
            (example(), (0, -1, 1), (4, 2)),
            (Table([1, 2], [[9, 1], [8, 3], [2, 0]], 3), (0, 1, -1), (5, 0)),
        ):
            pairs = list(product(range(3), range(2)))
            for desk in range(2):
                for size in range(3):
                    for steps in product(pairs, repeat=size):
                        expected = plain_reason_fault(table, held, row, desk, steps)
                        self.answers(expected, reason_fault, table, held, row, desk, steps)

    def test_each_fault(self):
        table = Table([1, 1, 1, 1], [[9, 8, 0, 0], [0, 9, 8, 0], [0, 0, 9, 0], [9, 0, 9, 1]], 4)
        held, row = (0, 1, 2, 3), (8, 7, 6, 0)
        self.refuses(NotAccepted(("envy", 3, 2)), reason_fault, table, held, row, 3, [])
        row = (8, 7, 8, 0)
        self.answers(None, reason_fault, table, held, row, 0, [(3, 0)])
        self.answers(None, reason_fault, table, held, row, 1, [(3, 0), (0, 1)])
        self.answers(("count",), reason_fault, table, held, row, 3, [(3, 0)])
        self.answers(("count",), reason_fault, table, held, row, 0, [])
        self.answers(("desk", 0), reason_fault, table, held, row, 0, [(0, 0)])
        self.answers(("link", 0), reason_fault, table, held, row, 1, [(0, 1)])
        self.answers(("tight", 0), reason_fault, table, held, row, 0, [(3, 1)])
        self.answers(("desk", 1), reason_fault, table, held, row, 0, [(3, 0), (0, 0)])
        self.answers(("link", 1), reason_fault, table, held, row, 1, [(3, 0), (3, 2)])
        self.answers(("link", 1), reason_fault, table, held, row, 1, [(3, 0), (1, 2)])
        self.answers(("tight", 1), reason_fault, table, held, row, 1, [(3, 0), (0, 2)])
        self.answers(("end",), reason_fault, table, held, row, 0, [(3, 2)])
        self.answers(("end",), reason_fault, table, held, row, 0, [(3, 0), (0, 1)])

    def test_their_order(self):
        self.answers(("desk", 0), reason_fault, example(), BEST, [3, 2], 1, [(0, 0), (1, 1)])
        self.answers(("link", 0), reason_fault, example(), BEST, [3, 2], 1, [(0, 1), (0, 0)])
        self.answers(("tight", 0), reason_fault, example(), BEST, [4, 2], 1, [(2, 0), (0, 0)])
        self.answers(("link", 1), reason_fault, example(), BEST, [4, 2], 1, [(2, 1), (0, 1)])
        self.answers(("tight", 1), reason_fault, example(), BEST, [4, 2], 1, [(2, 1), (1, 0)])
        self.answers(None, reason_fault, table=example(), held=BEST, prices=[3, 2], desk=1, steps=[(2, 1)])


class ReasonRefusalsTest(Case):
    def refused(self, error, *passed):
        self.refuses(error, reason, *passed)
        for steps in ([], [(9, 9)], [(0, 9)]):
            self.refuses(error, reason_fault, *passed, steps)

    def test_held(self):
        for length in (0, 2, 4):
            self.refused(OutOfRange("held", length), example(), [9] * length, [], 9)
        for wrong in (-2, 2, HUGE, -HUGE):
            self.refused(OutOfRange("desk", wrong), example(), [0, 0, wrong], [], 9)

    def test_prices(self):
        for length in (0, 1, 3):
            self.refused(OutOfRange("prices", length), example(), [0, 0, 0], [-1] * length, 9)
        for wrong in (-1, 10000, HUGE, -HUGE):
            self.refused(OutOfRange("price", wrong), example(), [0, 0, 0], [wrong, -7], 9)

    def test_desk(self):
        for wrong in (-1, 2, HUGE, -HUGE):
            self.refused(OutOfRange("desk", wrong), example(), [0, 0, 0], [0, 0], wrong)

    def test_steps(self):
        for wrong in (-1, 3, HUGE, -HUGE):
            for steps in ([(wrong, 9)], [(0, 0), (wrong, -1), (0, 9)]):
                self.refuses(OutOfRange("seeker", wrong), reason_fault, example(), [0, 0, 0], [0, 0], 0, steps)
        for wrong in (-1, 2, HUGE, -HUGE):
            for steps in ([(0, wrong)], [(0, 0), (1, wrong), (9, 0)]):
                self.refuses(OutOfRange("desk", wrong), reason_fault, example(), BEST, [3, 2], 0, steps)

    def test_not_accepted(self):
        for held, prices, fault in (
            ([0, 0, -1], [3, 2], ("desk", 0)),
            ([0, -1, -1], [3, 2], ("free", 1)),
            ([0, 1, -1], [2, 1], ("envy", 2, 1)),
            ([0, -1, -1], [3, 0], ("envy", 1, 1)),
        ):
            for desk in range(2):
                self.refuses(NotAccepted(fault), reason, example(), held, prices, desk)
                for steps in ([], [(0, 0)], [(2, 1)]):
                    self.refuses(NotAccepted(fault), reason_fault, example(), held, prices, desk, steps)
