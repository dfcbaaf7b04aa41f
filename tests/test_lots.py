from itertools import combinations

from heldbest.errors import OutOfRange
from heldbest.lots import lot_with, lot_without, seekers_of
from heldbest.tables import Table
from tests.helping import Case

HUGE = 10 ** 40


def table(seekers=4):
    return Table([1], [[1]] * seekers, 30)


def every_lot(seekers):
    return [lot for size in range(seekers + 1) for lot in combinations(range(seekers), size)]


class SeekersOfTest(Case):
    def test_all_seekers(self):
        for seekers in (0, 1, 4, 30):
            self.answers(tuple(range(seekers)), seekers_of, table(seekers))
            self.answers(tuple(range(seekers)), seekers_of, table(seekers), None)
            self.answers(tuple(range(seekers)), seekers_of, table(seekers), lot=None)
            self.answers((), seekers_of, table(seekers), [])

    def test_each_lot(self):
        for lot in every_lot(4):
            self.answers(lot, seekers_of, table(), lot)
            self.answers(lot, seekers_of, table=table(), lot=lot)

    def test_out_of_bounds_at_any_place(self):
        for wrong in (-1, 4, HUGE, -HUGE):
            self.refuses(OutOfRange("seeker", wrong), seekers_of, table(), [wrong])
            self.refuses(OutOfRange("seeker", wrong), seekers_of, table(), [wrong, 1, 3])
            self.refuses(OutOfRange("seeker", wrong), seekers_of, table(), [0, wrong, 3])
            self.refuses(OutOfRange("seeker", wrong), seekers_of, table(), [0, 1, 3, wrong])
        self.refuses(OutOfRange("seeker", 0), seekers_of, table(0), [0])

    def test_twice(self):
        self.refuses(OutOfRange("seeker", 0), seekers_of, table(), [0, 0])
        self.refuses(OutOfRange("seeker", 1), seekers_of, table(), [0, 1, 1, 2])
        self.refuses(OutOfRange("seeker", 3), seekers_of, table(), [1, 3, 3])

    def test_out_of_order(self):
        self.refuses(OutOfRange("seeker", 0), seekers_of, table(), [1, 0])
        self.refuses(OutOfRange("seeker", 2), seekers_of, table(), [0, 3, 2])
        self.refuses(OutOfRange("seeker", 0), seekers_of, table(), [0, 1, 0])

    def test_the_first_wrong_item(self):
        self.refuses(OutOfRange("seeker", 1), seekers_of, table(), [1, 1, 9])
        self.refuses(OutOfRange("seeker", 9), seekers_of, table(), [1, 9, 1])
        self.refuses(OutOfRange("seeker", -1), seekers_of, table(), [2, -1, 7])

    def test_later_changes_have_no_effect(self):
        lot = [0, 2]
        answer = seekers_of(table(), lot)
        lot[0] = 1
        lot.append(3)
        self.assertEqual((answer, lot), ((0, 2), [1, 2, 3]))


class WithAndWithoutTest(Case):
    def test_each_lot_and_seeker(self):
        for lot in every_lot(4):
            for seeker in range(4):
                self.answers(tuple(sorted({*lot, seeker})), lot_with, table(), lot, seeker)
                self.answers(tuple(sorted({*lot} - {seeker})), lot_without, table(), lot, seeker)

    def test_all_seekers(self):
        for seeker in range(4):
            others = tuple(other for other in range(4) if other != seeker)
            self.answers((0, 1, 2, 3), lot_with, table(), None, seeker)
            self.answers(others, lot_without, table(), None, seeker)

    def test_by_name(self):
        self.answers((0, 2), lot_with, table=table(), lot=[0], seeker=2)
        self.answers((0,), lot_without, table=table(), lot=[0, 2], seeker=2)

    def test_refusals(self):
        for ask in (lot_with, lot_without):
            for wrong in (-1, 4, HUGE, -HUGE):
                self.refuses(OutOfRange("seeker", wrong), ask, table(), [0, 2], wrong)
                self.refuses(OutOfRange("seeker", wrong), ask, table(), None, wrong)
                self.refuses(OutOfRange("seeker", wrong), ask, table(), [], wrong)
                self.refuses(OutOfRange("seeker", wrong), ask, table(), [0, wrong], 1)
            self.refuses(OutOfRange("seeker", 0), ask, table(0), None, 0)

    def test_the_lot_ahead_of_the_seeker(self):
        for ask in (lot_with, lot_without):
            self.refuses(OutOfRange("seeker", 7), ask, table(), [0, 7], 8)
            self.refuses(OutOfRange("seeker", 1), ask, table(), [2, 1], -1)
            self.refuses(OutOfRange("seeker", 2), ask, table(), [2, 2], 4)
