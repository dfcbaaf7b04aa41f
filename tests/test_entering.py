from itertools import permutations

from heldbest.entering import enter
from heldbest.errors import Unfit
from heldbest.judging import judge
from heldbest.leaving import leave
from heldbest.plain import plain_bests
from heldbest.seats import value
from heldbest.solving import solve
from heldbest.strands import difference
from heldbest.tables import Table
from tests.helping import Case, example
from tests.plainly import every_lot, held_and_rows, plain_greatest, plain_least, plain_value, some_tables
from tests.test_gains import WayRefusalsTest
from tests.test_solving import BROAD, MIDDLE, WIDE

SMALL = [example(), *some_tables(29, 25)]


class Moving(Case):
    def moved(self, ask, table, lot, held, row, seeker):
        """What `ask` answers, and the new lot, when all that is told of the answer holds."""
        after, prices = ask(table, lot, held, row, seeker)
        members = [other for other in range(table.seekers) if other in lot and other != seeker]
        start = list(held)
        start[seeker] = -1
        if ask == enter:
            members = sorted([*members, seeker])
        self.assertIsNone(judge(table, after, prices, lot=members))
        self.assertLessEqual(len(difference(table, start, after)), 1)
        return after, prices, members


class EnterTest(Moving):
    def test_small_tables(self):
        for table in SMALL:
            for lot in every_lot(table):
                for held, row in held_and_rows(table, lot):
                    for seeker in [other for other in range(table.seekers) if other not in lot]:
                        after, prices, members = self.moved(enter, table, lot, held, row, seeker)
                        self.assertIn(after, plain_bests(table, members))
                        self.assertEqual(prices, plain_least(table, members))

    def test_answers(self):
        self.answers(((0, -1, -1), (0, 0)), enter, example(), [], [-1, -1, -1], [0, 0], 0)
        self.answers(((0, 1, -1), (1, 0)), enter, example(), [0], [0, -1, -1], [0, 0], 1)
        self.answers(((0, 1, -1), (1, 0)), enter, example(), (0,), [0, -1, -1], [3, 0], 1)
        self.answers(((0, 1, -1), (3, 2)), enter, example(), [0, 1], [0, 1, -1], [1, 0], 2)
        self.answers(((-1, 0), (5,)), enter, Table([1], [[5], [9]], 2), [0], [0, -1], [0], 1)

    def test_by_name(self):
        expected = ((0, -1, -1), (0, 0))
        self.answers(expected, enter, table=example(), lot=[], held=[-1] * 3, prices=[0, 0], seeker=0)

    def test_in_the_lot(self):
        for seeker in (0, 1):
            self.refuses(Unfit(("lot", seeker)), enter, example(), [0, 1], [0, 1, -1], [1, 0], seeker)
        for seeker in range(3):
            self.refuses(Unfit(("lot", seeker)), enter, example(), None, [0, 1, -1], [3, 2], seeker)


class EnterRefusalsTest(WayRefusalsTest):
    def ask(self):
        return enter


class LeaveTest(Moving):
    def test_small_tables(self):
        for table in SMALL:
            for lot in every_lot(table):
                for held, row in held_and_rows(table, lot):
                    for seeker in lot:
                        after, prices, members = self.moved(leave, table, lot, held, row, seeker)
                        self.assertIn(after, plain_bests(table, members))
                        self.assertEqual(prices, plain_least(table, members))

    def test_answers(self):
        self.answers(((-1, -1, -1), (0, 0)), leave, example(), [0], [0, -1, -1], [3, 0], 0)
        self.answers(((-1, 0, 1), (0, 0)), leave, example(), None, [0, 1, -1], [3, 2], 0)
        self.answers(((0, -1, 1), (0, 0)), leave, example(), None, [0, 1, -1], [3, 2], 1)
        self.answers(((0, 1, -1), (1, 0)), leave, example(), [0, 1, 2], [0, 1, -1], [3, 2], 2)
        self.answers(((-1, 0), (0,)), leave, Table([1], [[9], [5]], 2), None, [0, -1], [7], 0)

    def test_by_name(self):
        expected = ((-1, -1, -1), (0, 0))
        self.answers(expected, leave, table=example(), lot=[0], held=[0, -1, -1], prices=[3, 0], seeker=0)

    def test_not_in_the_lot(self):
        self.refuses(Unfit(("lot", 2)), leave, example(), [0, 1], [0, 1, -1], [1, 0], 2)
        for seeker in range(3):
            self.refuses(Unfit(("lot", seeker)), leave, example(), [], [-1, -1, -1], [0, 0], seeker)


class LeaveRefusalsTest(WayRefusalsTest):
    def ask(self):
        return leave


class OneAfterTheOtherTest(Moving):
    def in_and_out(self, table, order):
        """All seekers come in this order, the first half of them leaves and comes again."""
        lot, held, row = [], (-1,) * table.seekers, (0,) * table.desks
        half = order[:len(order) // 2]
        for ask, seekers in ((enter, order), (leave, half), (enter, half)):
            for seeker in seekers:
                held, row, lot = self.moved(ask, table, lot, held, row, seeker)
        return held, row

    def test_small_tables(self):
        for table in SMALL:
            for order in permutations(range(table.seekers)):
                held, row = self.in_and_out(table, order)
                self.assertIn(held, plain_bests(table))
                self.assertEqual(row, plain_least(table))

    def test_great_tables(self):
        for table in (WIDE, BROAD, MIDDLE):
            for order in (list(range(30)), list(range(29, -1, -1)), [7 * k % 30 for k in range(30)]):
                held, row = self.in_and_out(table, order)
                self.assertEqual(value(table, held), value(table, solve(table)[0]))
                self.assertEqual(row, solve(table)[1])

    def test_prices_do_not_fall_when_a_seeker_comes(self):
        for table in SMALL:
            for lot in every_lot(table):
                for seeker in lot:
                    others = [other for other in lot if other != seeker]
                    for row_of in (plain_least, plain_greatest):
                        for less, more in zip(row_of(table, others), row_of(table, lot)):
                            self.assertLessEqual(less, more)
                    held, row = solve(table, others)
                    for less, more in zip(row, enter(table, others, held, row, seeker)[1]):
                        self.assertLessEqual(less, more)

    def test_the_best_value_behind_all(self):
        for table in SMALL:
            held = self.in_and_out(table, list(range(table.seekers)))[0]
            self.assertEqual(value(table, held), plain_value(table))
