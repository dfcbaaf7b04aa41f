from itertools import product

from heldbest.errors import OutOfRange, TooHeavy
from heldbest.greatestrows import greatest_prices
from heldbest.judging import judge
from heldbest.lattices import accepted_rows, is_accepted, price_ranges
from heldbest.leastrows import least_prices
from heldbest.plain import plain_bests
from heldbest.solving import solve
from heldbest.tables import Table
from tests.helping import HUGE, Case, example
from tests.plainly import every_lot, is_plainly_accepted, some_tables
from tests.test_solving import BROAD, MIDDLE, WIDE

TINY = [example(), *some_tables(43, 20, desks=2, seekers=3, worth=3)]
HIGH = Table([1, 1], [[63, 0], [0, 63]], 2)
HIGHER = Table([1, 1], [[63, 0], [0, 64]], 2)


def listed(table, lot=None):
    return tuple(accepted_rows(table, lot))


class IsAcceptedTest(Case):
    def test_every_row_of_tiny_tables(self):
        for table in TINY:
            for lot in every_lot(table):
                for row in product(range(5), repeat=table.desks):
                    self.answers(is_plainly_accepted(table, row, lot), is_accepted, table, row, lot)

    def test_all_seekers(self):
        for row in product(range(6), repeat=2):
            expected = row in ((3, 2), (4, 2))
            self.answers(expected, is_accepted, example(), row)
            self.answers(expected, is_accepted, example(), row, None)
            self.answers(expected, is_accepted, example(), row, [0, 1, 2])

    def test_accepted_rows_changed_by_one(self):
        for table in some_tables(47, 12):
            for row in accepted_rows(table):
                self.assertTrue(is_accepted(table, row))
                for desk, price in enumerate(row):
                    for other in (price - 1, price + 1):
                        changed = [*row[:desk], other, *row[desk + 1:]]
                        if other >= 0:
                            self.answers(is_plainly_accepted(table, changed), is_accepted, table, changed)

    def test_great_tables(self):
        for table in (WIDE, BROAD, MIDDLE):
            for row in (least_prices(table), greatest_prices(table)):
                self.answers(True, is_accepted, table, row)
            least, greatest = list(least_prices(table)), list(greatest_prices(table))
            for desk in range(6):
                if least[desk] > 0:
                    self.answers(False, is_accepted, table, [*least[:desk], least[desk] - 1, *least[desk + 1:]])
                self.answers(False, is_accepted, table, [*greatest[:desk], greatest[desk] + 1, *greatest[desk + 1:]])

    def test_nobody(self):
        self.answers(True, is_accepted, Table([1, 2], [], 1), [0, 0])
        self.answers(False, is_accepted, Table([1, 2], [], 1), [0, 1])
        self.answers(True, is_accepted, example(), [0, 0], [])
        self.answers(False, is_accepted, example(), [9999, 9999])

    def test_the_facts_of_accepted_rows(self):
        for table in TINY:
            for row in accepted_rows(table):
                held = [one for one in product(range(-1, table.desks), repeat=table.seekers)
                        if judge(table, one, row) is None]
                self.assertEqual(tuple(held), plain_bests(table))

    def test_by_name(self):
        self.answers(True, is_accepted, table=example(), prices=[3, 0], lot=[0])

    def test_refusals(self):
        for length in (0, 1, 3):
            self.refuses(OutOfRange("prices", length), is_accepted, example(), [-1] * length, [9])
        for wrong in (-1, 10000, HUGE, -HUGE):
            self.refuses(OutOfRange("price", wrong), is_accepted, example(), [wrong, -5], [9])
            self.refuses(OutOfRange("price", wrong), is_accepted, example(), [9999, wrong])
        self.refuses_lots(is_accepted, [example(), [3, 2]])


class PriceRangesTest(Case):
    def test_ranges(self):
        self.answers(((3, 4), (2, 2)), price_ranges, example())
        self.answers(((3, 4), (2, 2)), price_ranges, example(), None)
        self.answers(((0, 3), (0, 0)), price_ranges, example(), [0])
        self.answers(((0, 0), (0, 0)), price_ranges, example(), [])
        self.answers(((0, 0),), price_ranges, table=Table([9], [[5]], 1), lot=[0])
        for table in [*TINY, WIDE, BROAD, MIDDLE]:
            expected = tuple(zip(least_prices(table), greatest_prices(table)))
            self.answers(expected, price_ranges, table)
            lot = tuple(range(0, table.seekers, 2))
            self.answers(tuple(zip(least_prices(table, lot), greatest_prices(table, lot))), price_ranges, table, lot)

    def test_refusals(self):
        self.refuses_lots(price_ranges, [example()])


class AcceptedRowsTest(Case):
    def test_every_lot_of_tiny_tables(self):
        for table in TINY:
            for lot in every_lot(table):
                rows = product(range(5), repeat=table.desks)
                expected = tuple(row for row in rows if is_plainly_accepted(table, row, lot))
                self.answers(expected, listed, table, lot)
                self.assertEqual(list(expected), sorted(expected))

    def test_all_seekers(self):
        self.answers(((3, 2), (4, 2)), listed, example())
        self.answers(((3, 2), (4, 2)), listed, example(), None)
        self.assertEqual(tuple(accepted_rows(table=example(), lot=[0])), ((0, 0), (1, 0), (2, 0), (3, 0)))
        self.answers(((0, 0, 0),), listed, Table([1, 2, 3], [], 1))

    def test_a_product_of_4096(self):
        self.answers(((0, 63), (0, 63)), price_ranges, HIGH)
        rows = listed(HIGH)
        self.assertEqual(rows, tuple(product(range(64), repeat=2)))

    def test_only_the_prices_between_count(self):
        table = Table([1, 1], [[99, 0], [60, 0], [0, 99], [0, 98]], 4)
        self.answers(((60, 99), (98, 99)), price_ranges, table)
        expected = tuple(product(range(60, 100), (98, 99)))
        self.answers(expected, listed, table)

    def test_a_product_above_4096(self):
        self.refuses(TooHeavy(64 * 65), listed, HIGHER)
        self.refuses(TooHeavy(64 * 65), listed, HIGHER, [0, 1])
        self.answers(tuple((price, 0) for price in range(64)), listed, HIGHER, [0])
        steep = Table([1] * 6, [[99 if desk == seeker else 0 for desk in range(6)] for seeker in range(6)], 6)
        self.refuses(TooHeavy(100 ** 6), listed, steep)

    def test_nothing_is_raised_before_the_iteration(self):
        for passed in ((HIGHER,), (example(), [9])):
            begun = accepted_rows(*passed)
            with self.assertRaises((TooHeavy, OutOfRange)):
                next(begun)

    def test_the_lot_is_taken_when_the_iteration_begins(self):
        lot = [0, 1, 2]
        begun = accepted_rows(example(), lot)
        del lot[1:]
        self.assertEqual(next(begun), (0, 0))
        lot[0] = 99
        self.assertEqual(list(begun), [(1, 0), (2, 0), (3, 0)])

    def test_refusals(self):
        self.refuses_lots(listed, [example()])
        self.refuses(OutOfRange("seeker", 2), listed, HIGHER, [0, 2])

    def test_solve_tells_the_first_one(self):
        for table in TINY:
            self.assertEqual(listed(table)[0], solve(table)[1])
