from itertools import product

from heldbest.duals import profit
from heldbest.edits import rowed
from heldbest.errors import OutOfRange
from heldbest.falserows import nets
from heldbest.leastrows import least_prices
from heldbest.plain import plain_bests
from heldbest.tables import Table
from tests.helping import HUGE, Case, example
from tests.plainly import plain_least, plain_value, some_tables, without
from tests.test_solving import MIDDLE, WIDE

SMALL = [example(), *some_tables(73, 25, most=6)]


def possible_nets(table, seeker, row):
    """What the second number may be, for each of the best assignments."""
    told = rowed(table, seeker, row)
    prices = plain_least(told)
    found = set()
    for held in plain_bests(told):
        desk = held[seeker]
        found.add(0 if desk == -1 else table.rows[seeker][desk] - prices[desk])
    return found


class NetsTest(Case):
    def test_small_tables(self):
        for table in SMALL:
            rows = [row[:table.desks] for row in product((0, 2, 5), repeat=3)]
            for seeker in range(table.seekers):
                own = plain_value(table) - plain_value(table, without(table, seeker))
                for row in dict.fromkeys([*rows, table.rows[seeker]]):
                    first, second = nets(table, seeker, row)
                    self.assertEqual(first, own)
                    self.assertIn(second, possible_nets(table, seeker, row))
                    self.assertLessEqual(second, first)
                    self.answers((first, second), nets, table, seeker, row)

    def test_the_own_row(self):
        for table in [*SMALL, WIDE, MIDDLE]:
            for seeker in range(table.seekers):
                own = profit(table, seeker, least_prices(table))
                self.answers((own, own), nets, table, seeker, table.rows[seeker])

    def test_a_row_of_zeros(self):
        for table in [*SMALL, WIDE, MIDDLE]:
            for seeker in range(table.seekers):
                own = profit(table, seeker, least_prices(table))
                self.answers((own, 0), nets, table, seeker, [0] * table.desks)

    def test_below_zero(self):
        table = Table([1], [[2], [5]], 2)
        self.answers((0, -3), nets, table, 0, [9])
        self.answers((3, 3), nets, table, 1, [9])
        self.answers((3, 0), nets, table, 1, [1])

    def test_the_example(self):
        self.answers((0, 0), nets, example(), 2, [5, 5])
        self.answers((1, 1), nets, table=example(), seeker=0, row=[4, 1])

    def test_great_tables(self):
        for seeker in range(0, 30, 7):
            for row in ([99] * 6, [0, 99, 0, 50, 0, 1], WIDE.rows[seeker][::-1]):
                for table in (WIDE, MIDDLE):
                    first, second = nets(table, seeker, row)
                    self.assertLessEqual(second, first)

    def test_refusals(self):
        self.refuses_one("seeker", (-1, 3), nets, [example()], [[9]])
        self.refuses_one("seeker", (-1, 0), nets, [Table([1], [], 1)], [[9]])
        for length in (0, 1, 3):
            self.refuses(OutOfRange("row", length), nets, example(), 0, [-1] * length)
        for wrong in (-1, 100, HUGE, -HUGE):
            self.refuses(OutOfRange("worth", wrong), nets, example(), 0, [99, wrong])
            self.refuses(OutOfRange("worth", wrong), nets, example(), 0, [wrong, -7])
