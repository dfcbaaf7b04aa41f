from itertools import product

from heldbest.errors import OutOfRange, Unfit
from heldbest.seats import holders, loads, seat_fault, value
from heldbest.tables import Table
from tests.helping import Case, example

HUGE = 10 ** 40


def table():
    return Table([1, 2], [[4, 0], [3, 2], [0, 2], [1, 5]], 5)


def plain_fault(held):
    rows, places = table().rows, table().places
    for seeker, desk in enumerate(held):
        if desk >= 0 and rows[seeker][desk] < 1:
            return ("seeker", seeker)
    for desk in range(2):
        if len([own for own in held if own == desk]) > places[desk]:
            return ("desk", desk)
    return None


class SeatsTest(Case):
    def test_every_assignment(self):
        for held in product((-1, 0, 1), repeat=4):
            fault = plain_fault(held)
            self.answers(fault, seat_fault, table(), held)
            self.answers((held.count(0), held.count(1)), loads, table(), held)
            for desk in (0, 1):
                sitting = tuple(seeker for seeker in range(4) if held[seeker] == desk)
                self.answers(sitting, holders, table(), held, desk)
            if fault is None:
                worths = [table().rows[seeker][desk] for seeker, desk in enumerate(held) if desk >= 0]
                self.answers(sum(worths), value, table(), held)
            else:
                self.refuses(Unfit(fault), value, table(), held)

    def test_a_seeker_s_fault_comes_ahead_of_a_desk_s(self):
        self.answers(("seeker", 2), seat_fault, table(), [0, 0, 0, -1])
        self.answers(("desk", 0), seat_fault, table(), [0, 0, -1, -1])
        self.answers(("desk", 0), seat_fault, Table([1, 1], [[1, 1]] * 4, 4), [1, 1, 0, 0])
        self.answers(("desk", 1), seat_fault, Table([2, 1], [[1, 1]] * 4, 4), [1, 1, 0, 0])
        self.answers(("seeker", 0), seat_fault, table(), [1, 0, 0, -1])

    def test_full_desks_fit(self):
        full = Table([9, 1], [[1, 1]] * 10, 10)
        self.answers(None, seat_fault, full, [0] * 9 + [1])
        self.answers(("desk", 0), seat_fault, full, [0] * 10)
        self.answers((10, 0), loads, full, [0] * 10)

    def test_nobody(self):
        empty = Table([1, 1], [], 1)
        self.answers(None, seat_fault, empty, [])
        self.answers((0, 0), loads, empty, [])
        self.answers(0, value, empty, [])
        self.answers((), holders, empty, [], 1)
        self.answers(0, value, table(), [-1] * 4)

    def test_values(self):
        self.answers(6, value, example(), [0, 1, -1])
        self.answers(6, value, example(), [0, -1, 1])
        self.answers(4, value, example(), [1, 0, -1])
        self.answers(99 * 30, value, Table([9, 9, 9, 9], [[99] * 4] * 30, 30), [k // 9 for k in range(30)])

    def test_by_name(self):
        self.answers(None, seat_fault, table=example(), held=[0, 1, -1])
        self.answers((1, 1), loads, table=example(), held=[0, 1, -1])
        self.answers(6, value, table=example(), held=[0, 1, -1])
        self.answers((1,), holders, table=example(), held=[0, 1, -1], desk=1)

    def test_lengths_and_items(self):
        asks = (seat_fault, loads, value, lambda told, held: holders(told, held, 0))
        for ask in asks:
            for length in (0, 2, 4, 99):
                self.refuses(OutOfRange("held", length), ask, example(), [7] * length)
            for wrong in (-2, 2, HUGE, -HUGE):
                self.refuses(OutOfRange("desk", wrong), ask, example(), [wrong, 0, 0])
                self.refuses(OutOfRange("desk", wrong), ask, example(), [0, wrong, -9])
                self.refuses(OutOfRange("desk", wrong), ask, example(), [0, 0, wrong])

    def test_desk_of_holders(self):
        for wrong in (-1, -2, 2, HUGE, -HUGE):
            self.refuses(OutOfRange("desk", wrong), holders, example(), [0, 1, -1], wrong)
        self.refuses(OutOfRange("held", 2), holders, example(), [0, 1], 5)
        self.refuses(OutOfRange("desk", 3), holders, example(), [0, 3, -1], 5)
