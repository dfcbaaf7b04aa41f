from itertools import combinations, product

from heldbest.chains import follow, mixed, strand_gain
from heldbest.errors import OutOfRange, Unfit
from heldbest.listings import assignments
from heldbest.seats import seat_fault, value
from heldbest.strands import difference
from heldbest.tables import Table
from tests.helping import Case, example

HUGE = 10 ** 40


class StrandGainTest(Case):
    def test_gains(self):
        self.answers(0, strand_gain, example(), [])
        self.answers(4, strand_gain, example(), [(0, -1, 0)])
        self.answers(-3, strand_gain, example(), [(0, 0, 1)])
        self.answers(-2, strand_gain, example(), [(2, 1, -1)])
        self.answers(0, strand_gain, example(), [(1, -1, -1)])
        self.answers(-2, strand_gain, example(), [(0, 0, 1), (1, 1, 0)])
        self.answers(1, strand_gain, example(), [(0, -1, 0), (1, 0, -1)])

    def test_steps_need_not_hang_together(self):
        self.answers(12, strand_gain, example(), [(0, -1, 0)] * 3)
        self.answers(99 * 50, strand_gain, Table([1], [[99]], 1), [(0, -1, 0)] * 50)
        self.answers(0, strand_gain, Table([1], [[0]], 1), [(0, -1, 0)])

    def test_by_name(self):
        self.answers(4, strand_gain, table=example(), steps=[(0, -1, 0)])

    def test_the_gains_add_up(self):
        table = Table([1, 2], [[3, 2], [2, 1], [0, 2]], 4)
        every = list(assignments(table))
        for one, two in product(every, every):
            gains = [strand_gain(table, steps) for _, steps in difference(table, one, two)]
            self.assertEqual(sum(gains), value(table, two) - value(table, one))

    def test_refusals(self):
        for wrong in (-1, 3, HUGE, -HUGE):
            self.refuses(OutOfRange("seeker", wrong), strand_gain, example(), [(wrong, 5, 5)])
            self.refuses(OutOfRange("seeker", wrong), strand_gain, example(), [(0, 0, 1), (wrong, -5, 0)])
        for wrong in (-2, 2, HUGE, -HUGE):
            self.refuses(OutOfRange("desk", wrong), strand_gain, example(), [(0, wrong, 5)])
            self.refuses(OutOfRange("desk", wrong), strand_gain, example(), [(0, 0, wrong)])
            self.refuses(OutOfRange("desk", wrong), strand_gain, example(), [(0, 0, 1), (1, 1, wrong), (9, 9, 9)])


class FollowTest(Case):
    def test_followed(self):
        self.answers((0, 1, -1), follow, example(), [0, 1, -1], [])
        self.answers((1, 1, -1), follow, example(), [0, 1, -1], [(0, 0, 1)])
        self.answers((1, 0, -1), follow, example(), [0, 1, -1], [(0, 0, 1), (1, 1, 0)])
        self.answers((0, -1, 1), follow, example(), [0, 1, -1], [(2, -1, 1), (1, 1, -1)])

    def test_one_seeker_several_times(self):
        self.answers((-1, 1, -1), follow, example(), [0, 1, -1], [(0, 0, 1), (0, 1, 0), (0, 0, -1)])
        self.refuses(Unfit(("step", 1)), follow, example(), [0, 1, -1], [(0, 0, 1), (0, 0, -1)])
        self.answers((0, 1, -1), follow, example(), [0, 1, -1], [(0, 0, 0), (2, -1, -1)])

    def test_it_need_not_fit(self):
        self.answers((0, 0, 0), follow, example(), [-1, 0, 0], [(0, -1, 0)])
        self.answers((0, -1), follow, Table([1], [[0], [0]], 2), [-1, 0], [(0, -1, 0), (1, 0, -1)])

    def test_a_seeker_that_holds_another_desk(self):
        self.refuses(Unfit(("step", 0)), follow, example(), [0, 1, -1], [(0, 1, 0)])
        self.refuses(Unfit(("step", 0)), follow, example(), [0, 1, -1], [(0, -1, 0), (1, -1, 0)])
        self.refuses(Unfit(("step", 2)), follow, example(), [0, 1, -1], [(0, 0, 1), (1, 1, 0), (2, 0, 1), (2, 0, 1)])
        self.refuses(Unfit(("step", 1)), follow, example(), [0, 1, -1], [(2, -1, 1), (2, -1, 0)])

    def test_by_name(self):
        self.answers((0, -1, -1), follow, table=example(), held=[0, 1, -1], steps=[(1, 1, -1)])

    def test_refusals(self):
        fits = [0, 1, -1]
        for length in (0, 2, 4):
            self.refuses(OutOfRange("held", length), follow, example(), [5] * length, [(9, 9, 9)])
        for wrong in (-2, 2, HUGE, -HUGE):
            self.refuses(OutOfRange("desk", wrong), follow, example(), [0, wrong, -1], [(9, 9, 9)])
            self.refuses(OutOfRange("desk", wrong), follow, example(), fits, [(0, wrong, -9)])
            self.refuses(OutOfRange("desk", wrong), follow, example(), fits, [(0, 0, wrong), (9, 0, 0)])
        for wrong in (-1, 3, HUGE, -HUGE):
            self.refuses(OutOfRange("seeker", wrong), follow, example(), fits, [(wrong, 9, 9)])

    def test_bounds_come_ahead_of_unfit(self):
        self.refuses(OutOfRange("seeker", 3), follow, example(), [0, 1, -1], [(0, 1, 0), (3, 0, 0)])
        self.refuses(OutOfRange("desk", 2), follow, example(), [0, 1, -1], [(0, 1, 0), (1, 2, 0)])


class MixedTest(Case):
    def test_every_pick(self):
        table = Table([1, 1, 2], [[1, 2, 1], [1, 1, 0], [3, 1, 1]], 3)
        every = list(assignments(table))
        for one, two in product(every, every):
            strands = difference(table, one, two)
            for size in range(len(strands) + 1):
                for picks in combinations(range(len(strands)), size):
                    expected = list(one)
                    for pick in picks:
                        for seeker, _, new in strands[pick][1]:
                            expected[seeker] = new
                    self.assertEqual(mixed(table, one, two, picks), tuple(expected))
                    self.assertIsNone(seat_fault(table, expected))
            self.assertEqual(mixed(table, one, two, []), one)
            self.assertEqual(mixed(table, one, two, list(range(len(strands)))), two)

    def test_some(self):
        table = Table([1, 1, 1], [[1] * 3] * 3, 3)
        one, two = [0, 1, -1], [1, 0, 2]
        self.answers(((False, ((2, -1, 2),)), (True, ((0, 0, 1), (1, 1, 0)))), difference, table, one, two)
        self.answers((0, 1, -1), mixed, table, one, two, [])
        self.answers((0, 1, 2), mixed, table, one, two, [0])
        self.answers((1, 0, -1), mixed, table, one, two, [1])
        self.answers((1, 0, 2), mixed, table, one, two, [0, 1])
        self.answers((1, 0, -1), mixed, table=table, one=one, two=two, picks=[1])

    def test_picks(self):
        table = Table([1, 1, 1], [[1] * 3] * 3, 3)
        one, two = [0, 1, -1], [1, 0, 2]
        for wrong in (-1, 2, HUGE, -HUGE):
            self.refuses(OutOfRange("pick", wrong), mixed, table, one, two, [wrong])
            self.refuses(OutOfRange("pick", wrong), mixed, table, one, two, [0, wrong, 0])
        self.refuses(OutOfRange("pick", 0), mixed, table, one, two, [0, 0])
        self.refuses(OutOfRange("pick", 0), mixed, table, one, two, [1, 0])
        self.refuses(OutOfRange("pick", 1), mixed, table, one, two, [0, 1, 1])
        self.refuses(OutOfRange("pick", 0), mixed, table, one, one, [0])

    def test_what_difference_refuses_comes_first(self):
        table = Table([1, 1], [[1, 0], [1, 1], [1, 1]], 3)
        fits, unfit, wrong = [0, 1, -1], [0, 0, -1], [0, 0, 2]
        for picks in ([], [9], [0, 0]):
            self.refuses(OutOfRange("held", 2), mixed, table, [0, 0], wrong, picks)
            self.refuses(OutOfRange("held", 4), mixed, table, unfit, [0] * 4, picks)
            self.refuses(OutOfRange("desk", 2), mixed, table, wrong, [0], picks)
            self.refuses(OutOfRange("desk", 2), mixed, table, unfit, wrong, picks)
            self.refuses(Unfit(("desk", 0)), mixed, table, unfit, [1, -1, -1], picks)
            self.refuses(Unfit(("seeker", 0)), mixed, table, fits, [1, -1, -1], picks)
