from itertools import product

from heldbest.duals import profits as profits_at
from heldbest.errors import OutOfRange
from heldbest.groups import betters, group_value, pair_fault
from heldbest.judging import judge
from heldbest.lattices import accepted_rows
from heldbest.plain import plain_bests
from heldbest.solving import best_value
from heldbest.tables import Table
from tests.helping import HUGE, Case, example
from tests.plainly import every_lot, plain_value, rows_of, some_tables, value_by_loads
from tests.test_solving import MIDDLE, WIDE

SMALL = [example(), *some_tables(61, 15)]
TINY = [example(), *some_tables(67, 8, desks=2, seekers=3, worth=3)]
DUO = Table([1, 2], [[4, 1], [3, 2], [2, 2]], 3)


def every_seats(table):
    return product(*[range(count + 1) for count in table.places])


class GroupValueTest(Case):
    def test_every_group_of_small_tables(self):
        for table in SMALL:
            for lot in every_lot(table):
                for seats in every_seats(table):
                    expected = value_by_loads(seats, rows_of(table, lot))
                    self.answers(expected, group_value, table, lot, seats)

    def test_no_seats_and_all_seats(self):
        for table in [*SMALL, WIDE, MIDDLE]:
            self.answers(0, group_value, table, None, [0] * table.desks)
            self.answers(0, group_value, table, [], table.places)
            self.answers(best_value(table), group_value, table, None, table.places)
            self.answers(plain_value(table), group_value, table, list(range(table.seekers)), table.places)

    def test_some(self):
        self.answers(4, group_value, example(), None, [1, 0])
        self.answers(2, group_value, example(), [1, 2], (0, 1))
        self.answers(2, group_value, table=example(), lot=[2], seats=[1, 1])
        self.answers(3, group_value, DUO, [0, 2], [0, 2])
        self.answers(9 * 99, group_value, Table([9], [[99]] * 10, 10), None, [9])

    def test_refusals(self):
        self.refuses_lots(group_value, [example()], [[9, 9, 9]])
        refuse_seats(self, group_value, [example(), [0]])


class BettersTest(Case):
    def test_every_group_of_small_tables(self):
        for table in TINY:
            shares = [seeker % 3 for seeker in range(table.seekers)]
            for prices in ([0] * table.desks, [1, 3][:table.desks]):
                for lot in every_lot(table):
                    for seats in every_seats(table):
                        cost = sum(shares[seeker] for seeker in lot)
                        cost += sum(count * price for count, price in zip(seats, prices))
                        expected = value_by_loads(seats, rows_of(table, lot)) > cost
                        self.answers(expected, betters, table, shares, prices, lot, seats)

    def test_at_below_and_above_the_sum(self):
        for share, expected in ((0, True), (1, True), (2, False), (3, False), (9999, False)):
            self.answers(expected, betters, example(), [share, 9, 9], [2, 9], [0], [1, 0])
        for price, expected in ((0, True), (2, True), (3, False), (4, False), (9999, False)):
            self.answers(expected, betters, example(), [1, 9, 9], [price, 9], [0], [1, 0])
        for price, expected in ((0, True), (1, False), (2, False)):
            self.answers(expected, betters, DUO, [9, 1, 1], [9, price], [1, 2], [0, 2])

    def test_only_the_group_counts(self):
        self.answers(True, betters, example(), [3, 9999, 9999], [0, 9999], [0], [1, 0])
        self.answers(False, betters, example(), [3, 9999, 9999], [0, 9999], None, [1, 0])
        self.answers(False, betters, example(), [3, 9999, 9999], [0, 9999], [0], [1, 1])
        self.answers(False, betters, example(), [0, 0, 0], [0, 0], [], [1, 1])
        self.answers(False, betters, example(), [0, 0, 0], [0, 0], None, [0, 0])
        self.answers(True, betters, table=example(), profits=[0] * 3, prices=[0, 0], lot=None, seats=[0, 1])

    def test_refusals(self):
        wrong = ([9] * 9, [9], [9])
        refuse_profits(self, betters, [example()], wrong)
        refuse_prices(self, betters, [example(), [0, 0, 0]], wrong[1:])
        self.refuses_lots(betters, [example(), [0, 0, 0], [0, 0]], [[9, 9, 9]])
        refuse_seats(self, betters, [example(), [0, 0, 0], [0, 0], [0]])


class PairFaultTest(Case):
    def test_every_share(self):
        table = Table([1, 1], [[2, 1], [0, 3]], 2)
        for shares in product(range(4), repeat=2):
            for prices in product(range(4), repeat=2):
                pairs = [("pair", seeker, desk) for seeker in range(2) for desk in range(2)
                         if table.rows[seeker][desk] > shares[seeker] + prices[desk]]
                self.answers(pairs[0] if pairs else None, pair_fault, table, shares, prices)

    def test_the_first_one(self):
        self.answers(("pair", 0, 0), pair_fault, example(), [0, 0, 0], [0, 0])
        self.answers(("pair", 0, 1), pair_fault, example(), [0, 0, 0], [4, 0])
        self.answers(("pair", 1, 0), pair_fault, example(), [4, 0, 0], [0, 0])
        self.answers(("pair", 1, 1), pair_fault, example(), [1, 0, 0], [3, 1])
        self.answers(("pair", 2, 1), pair_fault, example(), [1, 1, 0], [3, 1])
        self.answers(None, pair_fault, example(), [1, 0, 0], [3, 2])
        self.answers(None, pair_fault, table=Table([1], [], 1), profits=[], prices=[0])

    def test_refusals(self):
        refuse_profits(self, pair_fault, [example()], [[9] * 9])
        refuse_prices(self, pair_fault, [example(), [0, 0, 0]])


class GroupFactsTest(Case):
    def test_if_no_pair_betters_no_group_betters(self):
        for table in TINY:
            for shares in product((0, 1, 2), repeat=table.seekers):
                for prices in product(range(4), repeat=table.desks):
                    if pair_fault(table, shares, prices) is None:
                        places = sum(count * price for count, price in zip(table.places, prices))
                        for lot in every_lot(table):
                            for seats in every_seats(table):
                                self.assertFalse(betters(table, shares, prices, lot, seats))
                        if sum(shares) + places == best_value(table):
                            for held in plain_bests(table):
                                self.assertIsNone(judge(table, held, prices))

    def test_no_group_betters_an_accepted_row(self):
        for table in TINY:
            for row in accepted_rows(table):
                shares = profits_at(table, row)
                self.assertIsNone(pair_fault(table, shares, row))
                for lot in every_lot(table):
                    for seats in every_seats(table):
                        self.assertFalse(betters(table, shares, row, lot, seats))


def refuse_profits(case, ask, ahead, behind):
    for length in (0, 2, 4):
        case.refuses(OutOfRange("profits", length), ask, *ahead, [-1] * length, *behind)
    for wrong in (-1, 10000, HUGE, -HUGE):
        case.refuses(OutOfRange("profit", wrong), ask, *ahead, [9999, wrong, -7], *behind)
        case.refuses(OutOfRange("profit", wrong), ask, *ahead, [wrong, 0, 0], *behind)


def refuse_prices(case, ask, ahead, behind=()):
    for length in (0, 1, 3):
        case.refuses(OutOfRange("prices", length), ask, *ahead, [-1] * length, *behind)
    for wrong in (-1, 10000, HUGE, -HUGE):
        case.refuses(OutOfRange("price", wrong), ask, *ahead, [wrong, -7], *behind)
        case.refuses(OutOfRange("price", wrong), ask, *ahead, [9999, wrong], *behind)


def refuse_seats(case, ask, ahead):
    """The table has two desks of one place."""
    for length in (0, 1, 3):
        case.refuses(OutOfRange("seats", length), ask, *ahead, [-1] * length)
    for wrong in (-1, 2, HUGE, -HUGE):
        case.refuses(OutOfRange("seat", wrong), ask, *ahead, [wrong, -7])
        case.refuses(OutOfRange("seat", wrong), ask, *ahead, [1, wrong])
