from itertools import product

from heldbest.errors import OutOfRange, Unfit
from heldbest.listings import assignments
from heldbest.plain import plain_bests
from heldbest.strands import difference
from heldbest.tables import Table
from tests.helping import Case, example
from tests.plainly import plain_strands

HUGE = 10 ** 40


class DifferenceTest(Case):
    def test_every_pair(self):
        for table in (
            Table([1, 2], [[1, 1], [1, 1], [1, 1]], 3),
            Table([2, 1], [[1, 1], [0, 1], [1, 1], [1, 0]], 4),
            Table([1, 1, 1], [[1, 1, 1], [1, 1, 1], [1, 0, 1]], 3),
        ):
            every = list(assignments(table))
            for one, two in product(every, every):
                self.answers(plain_strands(table, one, two), difference, table, one, two)

    def test_no_difference(self):
        for held in assignments(example()):
            self.answers((), difference, example(), held, held)
        self.answers((), difference, Table([1], [], 1), [], [])

    def test_a_seeker_follows_at_its_desk(self):
        table = Table([1, 1], [[1, 1], [1, 1]], 3)
        self.answers(((False, ((1, -1, 0), (0, 0, -1))),), difference, table, [0, -1], [-1, 0])
        self.answers(((False, ((1, -1, 0), (0, 0, 1))),), difference, table, [0, -1], [1, 0])
        self.answers(((False, ((0, -1, 1), (1, 1, -1))),), difference, table, [-1, 1], [1, -1])

    def test_nobody_follows_at_no_desk(self):
        table = Table([1, 1], [[1, 1], [1, 1]], 3)
        expected = ((False, ((0, -1, 0),)), (False, ((1, 1, -1),)))
        self.answers(expected, difference, table, [-1, 1], [0, -1])
        expected = ((False, ((0, 0, -1),)), (False, ((1, -1, 1),)))
        self.answers(expected, difference, table, [0, -1], [-1, 1])

    def test_a_closed_strand(self):
        self.answers(((True, ((0, 0, 1), (1, 1, 0))),), difference, example(), [0, 1, -1], [1, 0, -1])
        table = Table([1, 1, 1], [[1, 1, 1]] * 3, 3)
        self.answers(((True, ((0, 0, 1), (1, 1, 2), (2, 2, 0))),), difference, table, [0, 1, 2], [1, 2, 0])
        self.answers(((True, ((0, 0, 2), (2, 2, 1), (1, 1, 0))),), difference, table, [0, 1, 2], [2, 0, 1])

    def test_two_closed_strands(self):
        table = Table([1, 1, 1, 1], [[1] * 4] * 4, 4)
        expected = ((True, ((0, 0, 3), (3, 3, 0))), (True, ((1, 1, 2), (2, 2, 1))))
        self.answers(expected, difference, table, [0, 1, 2, 3], [3, 2, 1, 0])

    def test_open_strands_come_first(self):
        table = Table([1, 1, 1, 1], [[1] * 4] * 6, 6)
        expected = (
            (False, ((4, 3, -1),)),
            (False, ((5, -1, 2), (3, 2, -1))),
            (True, ((0, 0, 1), (1, 1, 0))),
        )
        self.answers(expected, difference, table, [0, 1, -1, 2, 3, -1], [1, 0, -1, -1, -1, 2])

    def test_the_kth_comer_is_followed_by_the_kth_leaver(self):
        table = Table([2, 9], [[1, 1]] * 6, 6)
        expected = (
            (False, ((1, 1, 0), (2, 0, -1))),
            (False, ((4, -1, 0), (3, 0, -1))),
        )
        self.answers(expected, difference, table, [-1, 1, 0, 0, -1, -1], [-1, 0, -1, -1, 0, -1])
        expected = (
            (False, ((4, -1, 0), (3, 0, -1))),
            (True, ((1, 1, 0), (2, 0, 1))),
        )
        self.answers(expected, difference, table, [-1, 1, 0, 0, -1, -1], [-1, 0, 1, -1, 0, -1])

    def test_more_comers_than_leavers(self):
        table = Table([3, 9], [[1, 1]] * 5, 5)
        expected = (
            (False, ((0, -1, 0), (2, 0, -1))),
            (False, ((1, 1, 0),)),
            (False, ((4, -1, 0),)),
        )
        self.answers(expected, difference, table, [-1, 1, 0, -1, -1], [0, 0, -1, -1, 0])

    def test_more_leavers_than_comers(self):
        table = Table([3, 9], [[1, 1]] * 5, 5)
        expected = (
            (False, ((1, 0, 1),)),
            (False, ((2, 0, -1),)),
            (False, ((4, -1, 0), (0, 0, -1))),
        )
        self.answers(expected, difference, table, [0, 0, 0, -1, -1], [-1, 1, -1, -1, 0])

    def test_the_gains_of_best_assignments_are_zero(self):
        table = Table([1, 2], [[3, 2], [2, 1], [2, 2], [1, 0]], 4)
        bests = plain_bests(table)
        self.assertGreater(len(bests), 1)
        for one, two in product(bests, bests):
            for _, steps in difference(table, one, two):
                gain = sum(table.worth(seeker, new) - table.worth(seeker, old) for seeker, old, new in steps)
                self.assertEqual(gain, 0)

    def test_by_name(self):
        expected = ((False, ((0, -1, 0), (1, 0, -1))),)
        self.answers(expected, difference, table=example(), one=[-1, 0, -1], two=[0, -1, -1])


class DifferenceRefusalsTest(Case):
    def test_lengths(self):
        fits = [0, 1, -1]
        for length in (0, 2, 4):
            self.refuses(OutOfRange("held", length), difference, example(), [5] * length, fits)
            self.refuses(OutOfRange("held", length), difference, example(), fits, [5] * length)
        self.refuses(OutOfRange("held", 1), difference, example(), [5], [5, 5])

    def test_items(self):
        fits = [0, 1, -1]
        for wrong in (-2, 2, HUGE, -HUGE):
            self.refuses(OutOfRange("desk", wrong), difference, example(), [0, wrong, -3], fits)
            self.refuses(OutOfRange("desk", wrong), difference, example(), fits, [0, 1, wrong])
        self.refuses(OutOfRange("desk", 2), difference, example(), [0, 1, 2], [3, 3])

    def test_unfit(self):
        table = Table([1, 1], [[1, 0], [1, 1], [1, 1]], 3)
        for wrong, fault in (([1, -1, -1], ("seeker", 0)), ([0, 0, 1], ("desk", 0)), ([0, 1, 1], ("desk", 1))):
            self.refuses(Unfit(fault), difference, table, wrong, [0, 1, -1])
            self.refuses(Unfit(fault), difference, table, [0, 1, -1], wrong)
            self.refuses(Unfit(fault), difference, table, wrong, wrong)
        self.refuses(Unfit(("desk", 0)), difference, table, [0, 0, 1], [1, -1, -1])
        self.refuses(Unfit(("seeker", 0)), difference, table, [1, -1, -1], [0, 0, 1])

    def test_bounds_come_ahead_of_unfit(self):
        self.refuses(OutOfRange("held", 2), difference, example(), [0, 0, -1], [0, 0])
        self.refuses(OutOfRange("desk", 2), difference, example(), [0, 0, -1], [0, 0, 2])
