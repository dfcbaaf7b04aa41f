from itertools import combinations, product

from heldbest.duals import ceiling, gain, profit, profits
from heldbest.errors import OutOfRange
from heldbest.judging import judge
from heldbest.plain import plain_best
from heldbest.tables import Table
from tests.helping import Case, example

HUGE = 10 ** 40


class GainTest(Case):
    def test_each_cell(self):
        for seeker, row in enumerate(example().rows):
            for prices in ((0, 0), (3, 2), (9999, 1)):
                for desk in range(2):
                    self.answers(row[desk] - prices[desk], gain, example(), seeker, desk, prices)
                    for measure in (1, 7, 100):
                        expected = measure * row[desk] - prices[desk]
                        self.answers(expected, gain, example(), seeker, desk, prices, measure=measure)

    def test_no_desk(self):
        for seeker in range(3):
            self.answers(0, gain, example(), seeker, -1, [3, 2])
            self.answers(0, gain, example(), seeker, -1, [9999, 9999], measure=100)

    def test_a_desk_of_worth_zero(self):
        self.answers(-5, gain, Table([1], [[0]], 1), 0, 0, [5], measure=100)

    def test_by_name(self):
        self.answers(38, gain, table=example(), seeker=0, desk=0, prices=[2, 0], measure=10)


class ProfitTest(Case):
    def test_profits(self):
        self.answers((4, 3, 2), profits, example(), [0, 0])
        self.answers((1, 0, 0), profits, example(), [3, 2])
        self.answers((1, 2, 2), profits, example(), [9, 0])
        self.answers((0, 0, 0), profits, example(), [9999, 9999])
        self.answers((9, 0, 0), profits, example(), [31, 20], measure=10)
        self.answers((398, 298, 199), profits, example(), [2, 1], measure=100)
        self.answers((), profits, Table([1], [], 1), [5])

    def test_one_profit(self):
        for prices, measure in (((0, 0), 1), ((3, 2), 1), ((31, 20), 10), ((2, 1), 100), ((9999, 9999), 100)):
            for seeker, row in enumerate(example().rows):
                expected = max(0, measure * row[0] - prices[0], measure * row[1] - prices[1])
                self.answers(expected, profit, example(), seeker, prices, measure=measure)
                if measure == 1:
                    self.answers(expected, profit, example(), seeker, prices)

    def test_by_name(self):
        self.answers(9, profit, table=example(), seeker=0, prices=[31, 20], measure=10)
        self.answers((9, 0, 0), profits, table=example(), prices=[31, 20], measure=10)


class CeilingTest(Case):
    def test_values(self):
        self.answers(6, ceiling, example(), [3, 2])
        self.answers(9, ceiling, example(), [0, 0])
        self.answers(7, ceiling, Table([2, 3], [[4, 1]], 3), [3, 0])
        self.answers(19, ceiling, Table([2, 3], [[4, 1]], 3), [9, 0])
        self.answers(30, ceiling, Table([2, 3], [[4, 1]], 3), [9, 4])
        self.answers(0, ceiling, Table([9], [], 1), [0])
        self.answers(9 * 9999, ceiling, Table([9], [], 1), [9999])

    def test_lots(self):
        self.answers(4, ceiling, example(), [0, 0], lot=[0])
        self.answers(5, ceiling, example(), [0, 0], lot=[1, 2])
        self.answers(0, ceiling, example(), [0, 0], lot=[])
        self.answers(5, ceiling, example(), [3, 2], lot=[])
        self.answers(6, ceiling, example(), [3, 2], lot=None)

    def test_it_is_rounded_down(self):
        self.answers(6, ceiling, example(), [31, 20], measure=10)
        self.answers(6, ceiling, example(), [30, 20], measure=10)
        self.answers(0, ceiling, Table([1], [[0]], 1), [99], measure=100)
        self.answers(1, ceiling, Table([1], [[0]], 1), [199], measure=100)
        self.answers(2, ceiling, Table([1], [[0]], 1), [200], measure=100)

    def test_no_assignment_is_above_it(self):
        table = Table([1, 2], [[4, 1], [3, 2], [0, 2]], 3)
        lots = [lot for size in range(4) for lot in combinations(range(3), size)]
        for prices in product((0, 1, 2, 5), repeat=2):
            for lot in lots:
                for measure in (1, 2, 3):
                    top = ceiling(table, prices, lot=lot, measure=measure)
                    self.assertGreaterEqual(top, plain_best(table, lot)[0])
                    if judge(table, plain_best(table, lot)[1], prices, lot=lot, measure=measure) is None:
                        self.assertEqual(top, plain_best(table, lot)[0])

    def test_by_name(self):
        self.answers(4, ceiling, table=example(), prices=[0, 0], measure=1, lot=[0])


class RefusalsTest(Case):
    def test_seeker(self):
        for wrong in (-1, 3, HUGE, -HUGE):
            self.refuses(OutOfRange("seeker", wrong), gain, example(), wrong, 9, [], measure=0)
            self.refuses(OutOfRange("seeker", wrong), gain, example(), wrong, -1, [0, 0])
            self.refuses(OutOfRange("seeker", wrong), profit, example(), wrong, [], measure=0)

    def test_desk(self):
        for wrong in (-2, 2, HUGE, -HUGE):
            self.refuses(OutOfRange("desk", wrong), gain, example(), 0, wrong, [], measure=0)

    def test_prices(self):
        for length in (0, 1, 3):
            wrong = [-1] * length
            self.refuses(OutOfRange("prices", length), gain, example(), 0, -1, wrong, measure=0)
            self.refuses(OutOfRange("prices", length), profit, example(), 0, wrong, measure=0)
            self.refuses(OutOfRange("prices", length), profits, example(), wrong, measure=0)
            self.refuses(OutOfRange("prices", length), ceiling, example(), wrong, lot=[9], measure=0)
        for price in (-1, 10000, HUGE, -HUGE):
            for wrong in ([price, -7], [9999, price]):
                self.refuses(OutOfRange("price", price), gain, example(), 0, -1, wrong, measure=0)
                self.refuses(OutOfRange("price", price), profit, example(), 0, wrong, measure=0)
                self.refuses(OutOfRange("price", price), profits, example(), wrong, measure=0)
                self.refuses(OutOfRange("price", price), ceiling, example(), wrong, lot=[9], measure=0)

    def test_lot(self):
        for wrong in (-1, 3, HUGE, -HUGE):
            self.refuses(OutOfRange("seeker", wrong), ceiling, example(), [0, 0], lot=[0, wrong], measure=0)
            self.refuses(OutOfRange("seeker", wrong), ceiling, example(), [0, 0], measure=101, lot=[wrong])
        self.refuses(OutOfRange("seeker", 1), ceiling, example(), [0, 0], lot=[1, 1], measure=0)
        self.refuses(OutOfRange("seeker", 0), ceiling, example(), [0, 0], lot=[2, 0], measure=0)

    def test_measure(self):
        for wrong in (0, -1, 101, HUGE, -HUGE):
            self.refuses(OutOfRange("measure", wrong), gain, example(), 0, -1, [0, 0], measure=wrong)
            self.refuses(OutOfRange("measure", wrong), profit, example(), 0, [0, 0], measure=wrong)
            self.refuses(OutOfRange("measure", wrong), profits, example(), [0, 0], measure=wrong)
            self.refuses(OutOfRange("measure", wrong), ceiling, example(), [0, 0], measure=wrong)
        empty = Table([1], [], 1)
        self.refuses(OutOfRange("measure", 0), profits, empty, [0], measure=0)
