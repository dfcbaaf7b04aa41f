from heldbest.errors import NotBest, OutOfRange, Unfit
from heldbest.margins import cost_to_others, gain_for_all, one_less, one_more
from heldbest.plain import plain_bests
from heldbest.solving import solve
from heldbest.tables import Table
from tests.helping import HUGE, Case, example
from tests.plainly import plain_less, plain_more, plain_value, some_tables, without
from tests.test_solving import MIDDLE, WIDE

SMALL = [example(), *some_tables(53, 40)]
NINE = Table([9, 1], [[k, 12 - k] for k in range(12)], 12)


class PlacesTest(Case):
    def test_each_desk(self):
        for table in [*SMALL, WIDE, MIDDLE, NINE]:
            for desk in range(table.desks):
                self.answers(plain_more(table, desk), one_more, table, desk)
                self.answers(plain_less(table, desk), one_less, table, desk)

    def test_a_tenth_place(self):
        table = Table([9], [[worth] for worth in (5, 9, 1, 7, 3, 8, 2, 6, 4, 9, 5)], 30)
        self.answers(2, one_more, table, 0)
        self.answers(0, one_more, Table([9], [[7]] * 9, 9), 0)
        self.answers(7, one_more, Table([9], [[7]] * 10, 10), 0)

    def test_no_place_left(self):
        self.answers(7, one_less, Table([1], [[7]], 1), 0)
        self.answers(3, one_less, Table([1, 1], [[7, 4]], 1), 0)
        self.answers(0, one_less, Table([1, 1], [[7, 4]], 1), 1)
        self.answers(0, one_less, Table([1], [], 1), 0)
        self.answers(0, one_more, Table([1], [[0]], 1), 0)

    def test_the_example(self):
        self.answers(3, one_more, example(), 0)
        self.answers(2, one_more, example(), 1)
        self.answers(4, one_less, example(), 0)
        self.answers(2, one_less, table=example(), desk=1)
        self.answers(2, one_more, table=example(), desk=1)

    def test_refusals(self):
        for ask in (one_more, one_less):
            self.refuses_one("desk", (-1, 2), ask, [example()])
            self.refuses_one("desk", (-1, 1), ask, [Table([1], [], 1)])


class SeekersTest(Case):
    def test_gain_for_all(self):
        for table in [*SMALL, WIDE, MIDDLE, NINE]:
            for seeker in range(min(table.seekers, 5)):
                expected = plain_value(table) - plain_value(table, without(table, seeker))
                self.answers(expected, gain_for_all, table, seeker)
        self.answers(1, gain_for_all, example(), 0)
        self.answers(0, gain_for_all, table=example(), seeker=1)
        self.answers(9, gain_for_all, Table([1], [[9]], 1), 0)

    def test_cost_to_others(self):
        for table in SMALL:
            for held in plain_bests(table):
                for seeker in range(table.seekers):
                    rest = sum(table.worth(other, held[other]) for other in without(table, seeker))
                    expected = plain_value(table, without(table, seeker)) - rest
                    self.answers(expected, cost_to_others, table, held, seeker)
                    price = 0 if held[seeker] == -1 else one_more(table, held[seeker])
                    self.assertEqual(expected, price)

    def test_the_example(self):
        self.answers(3, cost_to_others, example(), [0, 1, -1], 0)
        self.answers(2, cost_to_others, example(), [0, 1, -1], 1)
        self.answers(0, cost_to_others, example(), [0, 1, -1], 2)
        self.answers(2, cost_to_others, table=example(), held=[0, -1, 1], seeker=2)

    def test_a_great_table(self):
        held, row = solve(WIDE)
        for seeker, desk in enumerate(held):
            self.assertEqual(cost_to_others(WIDE, held, seeker), 0 if desk == -1 else row[desk])

    def test_refusals(self):
        self.refuses_one("seeker", (-1, 3), gain_for_all, [example()])
        self.refuses_one("seeker", (-1, 0), gain_for_all, [Table([1], [], 1)])
        for length in (0, 2, 4):
            self.refuses(OutOfRange("held", length), cost_to_others, example(), [9] * length, 9)
        for wrong in (-2, 2, HUGE, -HUGE):
            self.refuses(OutOfRange("desk", wrong), cost_to_others, example(), [0, 0, wrong], 9)
        for held in ([0, 1, -1], [0, 0, 0], [-1, -1, -1]):
            self.refuses_one("seeker", (-1, 3), cost_to_others, [example(), held])

    def test_unfit_then_not_best(self):
        table = Table([1, 1], [[4, 0], [3, 2], [2, 2]], 3)
        for seeker in range(3):
            self.refuses(Unfit(("seeker", 0)), cost_to_others, table, [1, 0, 0], seeker)
            self.refuses(Unfit(("desk", 0)), cost_to_others, table, [0, 0, -1], seeker)
            self.refuses(NotBest(6), cost_to_others, table, [0, -1, -1], seeker)
            self.refuses(NotBest(6), cost_to_others, example(), [1, 0, -1], seeker)
