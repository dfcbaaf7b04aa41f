from heldbest.errors import BadSlips, OutOfRange
from heldbest.slips import slips_fault, slips_held, slips_lot, write_slip
from heldbest.tables import Table
from tests.helping import HUGE, Case, example

GOOD = ((0, 0, 4, 31, ((0, 31),)), (1, 0, 9, 20, ((1, 20),)))
COLD = ((0, 0, 0, 0, ()), (1, 0, 0, 0, ()))
WIDE = Table([2, 1], [[4, 1], [3, 2], [2, 0]], 3)

WRONG_SLIPS = (
    ((-1, -1, -1, -1, ((9, -1),)), OutOfRange("desk", -1)),
    ((6, -1, -1, -1, ((9, -1),)), OutOfRange("desk", 6)),
    ((HUGE, 0, 0, 0, ()), OutOfRange("desk", HUGE)),
    ((0, -1, -1, -1, ((9, -1),)), OutOfRange("era", -1)),
    ((0, 1000, -1, -1, ((9, -1),)), OutOfRange("era", 1000)),
    ((1, 0, -1, -1, ((9, -1),)), OutOfRange("serial", -1)),
    ((1, 0, 100000, -1, ((9, -1),)), OutOfRange("serial", 100000)),
    ((1, 0, 0, -1, ((9, -1),)), OutOfRange("price", -1)),
    ((1, 0, 0, 10000, ((9, -1),)), OutOfRange("price", 10000)),
    ((0, 0, 0, 0, ((0, 0), (3, -1), (0, -2))), OutOfRange("seeker", 3)),
    ((0, 0, 0, 0, ((-1, 10000), (3, -1))), OutOfRange("seeker", -1)),
    ((0, 0, 0, 0, ((0, 0), (2, -1), (3, 0))), OutOfRange("amount", -1)),
    ((0, 0, 0, 0, ((2, 10000),)), OutOfRange("amount", 10000)),
)


def at(desk, slip, others=COLD):
    return [slip if place == desk else other for place, other in enumerate(others)]


class LookTest(Case):
    def test_every_question_looks_alike(self):
        for ask in (slips_fault, slips_held, slips_lot):
            for wrong in (-1, 1000, HUGE, -HUGE):
                self.refuses(OutOfRange("era", wrong), ask, example(), wrong, ())
            for many in (0, 1, 3):
                self.refuses(OutOfRange("slips", many), ask, example(), 0, [(9, 9, 9, -9, ())] * many)
            for slip, error in WRONG_SLIPS:
                self.refuses(error, ask, example(), 0, (slip, (9, 9, 9, -9, ())))
                self.refuses(error, ask, example(), 0, (None, slip))
                self.refuses(error, ask, example(), 0, (COLD[0], slip))

    def test_the_bounds(self):
        self.answers(("desk", 0), slips_fault, example(), 999, ((5, 999, 99999, 9999, ()), None))
        self.answers(("desk", 0), slips_fault, example(), 0, ((1, 0, 0, 0, ()), (0, 0, 0, 0, ((2, 9999),))))


class FaultTest(Case):
    def test_the_example(self):
        self.answers(None, slips_fault, example(), 0, GOOD)
        self.answers((0, 1, -1), slips_held, example(), 0, GOOD)
        self.answers((0, 1, 2), slips_lot, example(), 0, GOOD)
        self.answers(None, slips_fault, table=example(), era=0, slips=COLD)
        self.answers((-1, -1, -1), slips_held, table=example(), era=0, slips=COLD)
        self.answers((), slips_lot, table=example(), era=0, slips=COLD)

    def test_each_fault(self):
        for desk, slip, fault in (
            (0, None, ("missing", 0)),
            (1, None, ("missing", 1)),
            (0, (1, 0, 0, 0, ()), ("desk", 0)),
            (1, (0, 0, 0, 0, ()), ("desk", 1)),
            (1, (5, 0, 0, 0, ()), ("desk", 1)),
            (0, (0, 1, 0, 0, ()), ("era", 0)),
            (1, (1, 999, 0, 0, ()), ("era", 1)),
            (0, (0, 0, 0, 0, ((0, 1), (1, 1), (2, 1))), ("places", 0)),
            (1, (1, 0, 0, 0, ((0, 1), (1, 1))), ("places", 1)),
            (0, (0, 0, 0, 1, ((1, 1), (0, 1))), ("order", 0)),
            (0, (0, 0, 0, 1, ((1, 1), (1, 1))), ("order", 0)),
            (1, (1, 0, 0, 1, ((2, 1),)), ("worth", 1, 2)),
            (0, (0, 0, 0, 1, ()), ("price", 0)),
            (0, (0, 0, 0, 1, ((0, 1),)), ("price", 0)),
            (0, (0, 0, 0, 2, ((0, 1), (1, 2))), ("price", 0)),
            (1, (1, 0, 0, 0, ((1, 5),)), ("price", 1)),
            (1, (1, 0, 0, 6, ((1, 5),)), ("price", 1)),
        ):
            self.answers(fault, slips_fault, WIDE, 0, at(desk, slip))
            self.refuses(BadSlips(fault), slips_held, WIDE, 0, at(desk, slip))
            self.refuses(BadSlips(fault), slips_lot, WIDE, 0, at(desk, slip))

    def test_the_order_at_one_desk(self):
        three = ((1, 1), (1, 2), (2, 3))
        self.answers(("desk", 1), slips_fault, WIDE, 0, at(1, (0, 1, 0, 5, three)))
        self.answers(("era", 1), slips_fault, WIDE, 0, at(1, (1, 1, 0, 5, three)))
        self.answers(("places", 1), slips_fault, WIDE, 0, at(1, (1, 0, 0, 5, three)))
        both = Table([1, 2], WIDE.rows, 3)
        self.answers(("order", 1), slips_fault, both, 0, at(1, (1, 0, 0, 5, ((2, 1), (1, 1)))))
        self.answers(("worth", 1, 2), slips_fault, both, 0, at(1, (1, 0, 0, 5, ((1, 1), (2, 1)))))
        self.answers(("price", 1), slips_fault, both, 0, at(1, (1, 0, 0, 5, ((0, 1), (1, 1)))))

    def test_desk_by_desk(self):
        faults = (None, (5, 0, 0, 0, ()), (0, 7, 0, 0, ()), (0, 0, 0, 0, ((0, 1),) * 3), (0, 0, 0, 8, ()))
        for first in faults:
            told = slips_fault(WIDE, 0, at(0, first))
            self.assertEqual(told[1], 0)
            for second in faults:
                self.answers(told, slips_fault, WIDE, 0, (first, second))
        self.answers(("price", 0), slips_fault, WIDE, 0, ((0, 0, 0, 1, ((0, 1),)), (1, 0, 0, 1, ((0, 1), (1, 1)))))

    def test_twice(self):
        slips = ((0, 0, 2, 5, ((0, 5), (1, 9))), (1, 0, 1, 7, ((1, 7),)))
        self.answers(("twice", 1), slips_fault, WIDE, 0, slips)
        table = Table([2, 2, 1], [[4, 1, 1], [3, 2, 1], [2, 1, 1]], 3)
        slips = ((0, 0, 2, 5, ((1, 5), (2, 5))), (1, 0, 2, 7, ((0, 7), (2, 7))), (2, 0, 1, 9, ((0, 9),)))
        self.answers(("twice", 0), slips_fault, table, 0, slips)
        self.refuses(BadSlips(("twice", 0)), slips_held, table, 0, slips)

    def test_envy(self):
        slips = ((0, 0, 1, 20, ((0, 20),)), (1, 0, 1, 20, ((1, 20),)))
        self.answers(("envy", 1, 0), slips_fault, example(), 0, slips)
        self.refuses(BadSlips(("envy", 1, 0)), slips_held, example(), 0, slips)
        self.refuses(BadSlips(("envy", 1, 0)), slips_lot, example(), 0, slips)
        for price, fault in ((28, ("envy", 1, 0)), (29, None), (41, None), (42, ("envy", 0, -1))):
            slips = ((0, 0, 1, price, ((0, price),)), (1, 0, 1, 20, ((1, 20),)))
            self.answers(fault, slips_fault, example(), 0, slips)
        for price, fault in ((31, ("envy", 0, 1)), (32, ("envy", 0, -1))):
            slips = ((0, 0, 1, price, ((0, price),)), (1, 0, 0, 0, ()))
            self.answers(fault, slips_fault, Table([1, 1], [[3, 1], [1, 1], [1, 1]], 3), 0, slips)
        slips = ((0, 0, 1, 42, ((0, 42),)), (1, 0, 1, 22, ((1, 22),)))
        self.answers(("envy", 0, -1), slips_fault, example(), 0, slips)

    def test_who_holds_nothing_is_not_asked(self):
        slips = ((0, 0, 1, 19, ((0, 19),)), (1, 0, 0, 0, ()))
        table = Table([1, 1], [[4, 1], [9, 9], [9, 9]], 3)
        self.answers(None, slips_fault, table, 0, slips)
        self.answers((0, -1, -1), slips_held, table, 0, slips)
        self.answers((0,), slips_lot, table, 0, slips)


class LotTest(Case):
    def test_who_would_have_nothing(self):
        for price, lot in ((20, (0, 1, 2)), (19, (0, 1))):
            slips = ((0, 0, 1, 31, ((0, 31),)), (1, 0, 1, price, ((1, price),)))
            self.answers(lot, slips_lot, example(), 0, slips)
        table = Table([1], [[1], [0], [3], [2]], 4)
        slips = ((0, 7, 1, 16, ((3, 16),)),)
        self.answers((0, 1, 3), slips_lot, table, 7, slips)
        self.answers((-1, -1, -1, 0), slips_held, table, 7, slips)

    def test_without_seekers(self):
        table = Table([3], [], 4)
        for ask, answer in ((slips_fault, None), (slips_held, ()), (slips_lot, ())):
            self.answers(answer, ask, table, 3, ((0, 3, 0, 0, ()),))


class WriteSlipTest(Case):
    def test_lines(self):
        self.answers("desk 0 serial 4 price 31 0:31", write_slip, GOOD[0])
        self.answers("desk 1 serial 0 price 0", write_slip, slip=COLD[1])
        self.answers("desk 5 serial 99999 price 8 2:9 29:8", write_slip, (5, 999, 99999, 8, ((2, 9), (29, 8))))

    def test_a_slip_is_not_refused(self):
        self.answers("desk -1 serial -2 price 100000 3:1 2:-4", write_slip, (-1, 5000, -2, 100000, ((3, 1), (2, -4))))
