from itertools import product

from heldbest.edits import placed
from heldbest.errors import OutOfRange
from heldbest.greatestrows import greatest_prices
from heldbest.judging import judge
from heldbest.leastrows import least_prices
from heldbest.plain import plain_bests
from heldbest.solving import best_value, solve
from heldbest.tables import Table
from tests.helping import Case, example
from tests.plainly import (
    every_lot, is_plainly_accepted, plain_greatest, plain_least, plain_value, some_tables, without,
)
from tests.test_solving import BROAD, MIDDLE, WIDE

SMALL = [example(), *some_tables(37, 40)]
TINY = [example(), *some_tables(41, 12, desks=2, seekers=3, worth=3)]


class RowsTest(Case):
    def test_every_lot_of_small_tables(self):
        for table in SMALL:
            for lot in every_lot(table):
                self.answers(plain_least(table, lot), least_prices, table, lot)
                self.answers(plain_greatest(table, lot), greatest_prices, table, lot)

    def test_all_seekers(self):
        for table in [*SMALL, WIDE, MIDDLE]:
            for passed in ((table,), (table, None), (table, list(range(table.seekers)))):
                self.answers(plain_least(table), least_prices, *passed)
                self.answers(plain_greatest(table), greatest_prices, *passed)

    def test_all_rows_of_tiny_tables(self):
        for table in TINY:
            for lot in every_lot(table):
                least, greatest = least_prices(table, lot), greatest_prices(table, lot)
                rows = [row for row in product(range(5), repeat=table.desks) if is_plainly_accepted(table, row, lot)]
                self.assertIn(least, rows)
                self.assertIn(greatest, rows)
                for row in rows:
                    self.assertTrue(all(low <= price <= high for low, price, high in zip(least, row, greatest)))
                for one, two in product(rows, rows):
                    self.assertIn(tuple(min(pair) for pair in zip(one, two)), rows)
                    self.assertIn(tuple(max(pair) for pair in zip(one, two)), rows)

    def test_both_rows_are_accepted(self):
        for table in SMALL:
            for lot in every_lot(table):
                for held in plain_bests(table, lot):
                    self.assertIsNone(judge(table, held, least_prices(table, lot), lot=lot))
                    self.assertIsNone(judge(table, held, greatest_prices(table, lot), lot=lot))
        for table in (WIDE, BROAD, MIDDLE):
            held = solve(table)[0]
            self.assertIsNone(judge(table, held, least_prices(table)))
            self.assertIsNone(judge(table, held, greatest_prices(table)))

    def test_the_example(self):
        self.answers((3, 2), least_prices, example())
        self.answers((4, 2), greatest_prices, example())
        self.answers((0, 0), least_prices, example(), [0])
        self.answers((3, 0), greatest_prices, example(), [0])
        self.answers((1, 0), least_prices, example(), [0, 1])
        self.answers((4, 2), greatest_prices, example(), [0, 1])

    def test_desks_of_nine_places(self):
        rows = [[worth] for worth in (5, 9, 1, 7, 3, 8, 2, 6, 4, 9, 5)]
        for many in range(12):
            table = Table([9], rows[:many], 30)
            self.answers(plain_least(table), least_prices, table)
            self.answers(plain_greatest(table), greatest_prices, table)
        self.answers((2,), least_prices, Table([9], rows, 30))
        self.answers((3,), greatest_prices, Table([9], rows, 30))
        table = Table([9, 9], [[row[0], (3 * at) % 7] for at, row in enumerate(rows * 2)], 30)
        self.answers(plain_least(table), least_prices, table)
        self.answers(plain_greatest(table), greatest_prices, table)

    def test_desks_of_one_place(self):
        for worths in ((), (5,), (5, 3), (5, 3, 4), (5, 5)):
            ordered = [0, 0, *sorted(worths)]
            table = Table([1], [[worth] for worth in worths], 5)
            self.answers((ordered[-2],), least_prices, table)
            self.answers((ordered[-1],), greatest_prices, table)

    def test_free_desks_and_nobody(self):
        self.answers((0, 0), least_prices, Table([2, 1], [], 1))
        self.answers((0, 0), greatest_prices, Table([2, 1], [], 1))
        self.answers((0, 0), greatest_prices, example(), [])
        self.answers((0, 0), greatest_prices, Table([2, 1], [[9, 0]], 1))
        self.answers((0, 0), greatest_prices, Table([1, 2], [[0, 0]] * 9, 9))

    def test_by_name(self):
        self.answers((1, 0), least_prices, table=example(), lot=[0, 1])
        self.answers((4, 2), greatest_prices, table=example(), lot=[0, 1])

    def test_refusals(self):
        self.refuses_lots(least_prices, [example()])
        self.refuses_lots(greatest_prices, [example()])
        self.refuses(OutOfRange("seeker", 0), least_prices, Table([1], [], 1), [0])
        self.refuses(OutOfRange("seeker", 0), greatest_prices, Table([1], [], 1), [0])


class RowFactsTest(Case):
    def test_profits_are_gains_for_all(self):
        for table in SMALL:
            held, row = solve(table)
            for seeker in range(table.seekers):
                profit = max(0, *[worth - price for worth, price in zip(table.rows[seeker], row)])
                self.assertEqual(profit, plain_value(table) - plain_value(table, without(table, seeker)))
                if held[seeker] != -1:
                    others = best_value(table) - table.worth(seeker, held[seeker])
                    cost = plain_value(table, without(table, seeker)) - others
                    self.assertEqual(row[held[seeker]], cost)

    def test_no_price_rises_by_a_further_place(self):
        for table in SMALL:
            for desk, count in enumerate(table.places):
                wider = placed(table, desk, count + 1)
                for row_of in (least_prices, greatest_prices):
                    for narrow, wide in zip(row_of(table), row_of(wider)):
                        self.assertLessEqual(wide, narrow)

    def test_no_price_falls_by_a_further_seeker(self):
        for table in SMALL:
            for seeker in range(table.seekers):
                for row_of in (least_prices, greatest_prices):
                    for less, more in zip(row_of(table, without(table, seeker)), row_of(table)):
                        self.assertLessEqual(less, more)

    def test_places_count_like_desks(self):
        for table in SMALL:
            desks = [desk for desk, count in enumerate(table.places) for _ in range(count)]
            split = Table([1] * len(desks), [[row[desk] for desk in desks] for row in table.rows], table.most)
            self.assertEqual(best_value(split), best_value(table))
            self.assertEqual(least_prices(split), tuple(least_prices(table)[desk] for desk in desks))
