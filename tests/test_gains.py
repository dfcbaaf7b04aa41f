from heldbest.chains import follow, strand_gain
from heldbest.errors import NotAccepted, OutOfRange, Unfit
from heldbest.gains import best_way
from heldbest.leastrows import least_prices
from heldbest.seats import loads, seat_fault
from heldbest.solving import best_value, solve
from heldbest.tables import Table
from tests.helping import HUGE, Case, example
from tests.plainly import every_lot, held_and_rows, plain_value, some_tables
from tests.test_solving import BROAD, MIDDLE, WIDE

SMALL = [example(), *some_tables(23, 30)]
LAST = Table([1, 1, 1], [[9, 8, 0], [0, 9, 8], [9, 0, 0]], 5)


class BestWayTest(Case):
    def is_way(self, table, held, seeker, gain, steps):
        """Point 18: the steps are a way in of the seeker, with this gain."""
        if steps == ():
            self.assertEqual(gain, 0)
            return
        self.assertEqual(steps[0][:2], (seeker, -1))
        for (_, _, new), (follower, old, _) in zip(steps, steps[1:]):
            self.assertNotEqual(new, -1)
            self.assertEqual((held[follower], old), (new, new))
        self.assertTrue(all(old != new for _, old, new in steps))
        self.assertEqual(len({mover for mover, _, _ in steps}), len(steps))
        end = steps[-1][2]
        self.assertTrue(end == -1 or loads(table, held)[end] < table.places[end])
        self.assertEqual(strand_gain(table, steps), gain)
        self.assertIsNone(seat_fault(table, follow(table, held, steps)))

    def test_small_tables(self):
        for table in SMALL:
            for lot in every_lot(table):
                for held, row in held_and_rows(table, lot):
                    for seeker in [other for other in range(table.seekers) if other not in lot]:
                        gain, steps = best_way(table, lot, held, row, seeker)
                        grown = plain_value(table, sorted([*lot, seeker])) - plain_value(table, lot)
                        self.assertEqual(gain, grown)
                        self.is_way(table, held, seeker, gain, steps)

    def test_great_tables(self):
        for table in (WIDE, BROAD, MIDDLE):
            for seeker in (0, 7, 29):
                others = [other for other in range(30) if other != seeker]
                held, row = solve(table, others)
                gain, steps = best_way(table, others, held, row, seeker)
                self.assertEqual(gain, best_value(table) - best_value(table, others))
                self.is_way(table, held, seeker, gain, steps)

    def test_a_free_desk(self):
        self.answers((4, ((0, -1, 0),)), best_way, example(), [], [-1, -1, -1], [0, 0], 0)
        self.answers((2, ((2, -1, 1),)), best_way, example(), [0], [0, -1, -1], [3, 0], 2)
        self.answers((9, ((1, -1, 0),)), best_way, Table([2], [[5], [9]], 2), [0], [0, -1], [0], 1)

    def test_others_make_room(self):
        steps = ((2, -1, 0), (0, 0, 1), (1, 1, 2))
        self.answers((7, steps), best_way, LAST, [0, 1], [0, 1, -1], [1, 0, 0], 2)
        steps = ((0, -1, 0), (1, 0, -1))
        self.answers((4, steps), best_way, Table([1], [[9], [5]], 2), [1], [-1, 0], [2], 0)

    def test_no_step(self):
        self.answers((0, ()), best_way, Table([1], [[5], [4]], 2), [0], [0, -1], [4], 1)
        self.answers((0, ()), best_way, Table([1], [[5], [0]], 2), [0], [0, -1], [0], 1)
        self.answers((0, ()), best_way, Table([1], [[0]], 2), [], [-1], [0], 0)

    def test_a_desk_of_worth_zero_is_no_way(self):
        table = Table([1, 1], [[9, 0], [8, 0]], 2)
        self.answers((0, ()), best_way, table, [0], [0, -1], [8, 0], 1)
        self.answers((1, ((0, -1, 0), (1, 0, -1))), best_way, table, [1], [-1, 0], [0, 0], 0)

    def test_each_accepted_row_will_do(self):
        for price in range(5, 10):
            self.answers((0, ()), best_way, Table([1], [[9], [5]], 2), [0], [0, -1], [price], 1)

    def test_by_name(self):
        expected = (4, ((0, -1, 0),))
        self.answers(expected, best_way, table=example(), lot=[], held=[-1] * 3, prices=[0, 0], seeker=0)


class WayRefusalsTest(Case):
    """Also `enter` and `leave` are refused so, but for the last refusal."""

    def ask(self):
        return best_way

    def test_lot(self):
        self.refuses_lots(self.ask(), [example()], [[9], [], 9])

    def test_held(self):
        for length in (0, 2, 4):
            self.refuses(OutOfRange("held", length), self.ask(), example(), [0], [9] * length, [], 9)
        for wrong in (-2, 2, HUGE, -HUGE):
            self.refuses(OutOfRange("desk", wrong), self.ask(), example(), [0], [0, wrong, 9], [], 9)

    def test_prices(self):
        for length in (0, 1, 3):
            self.refuses(OutOfRange("prices", length), self.ask(), example(), [0], [0, 0, 0], [-1] * length, 9)
        for wrong in (-1, 10000, HUGE, -HUGE):
            self.refuses(OutOfRange("price", wrong), self.ask(), example(), [0], [0, 0, 0], [9999, wrong], 9)
            self.refuses(OutOfRange("price", wrong), self.ask(), example(), [0], [0, 0, 0], [wrong, -7], 9)

    def test_seeker(self):
        self.refuses_one("seeker", (-1, 3), self.ask(), [example(), [0], [0, 0, 0], [0, 0]])
        self.refuses_one("seeker", (-1, 3), self.ask(), [example(), None, [0, 1, -1], [3, 2]])

    def test_not_accepted(self):
        for held, prices, lot, fault in (
            ([0, 1, -1], [3, 2], [0, 2], ("stranger", 1)),
            ([0, 0, -1], [3, 2], [0, 1, 2], ("desk", 0)),
            ([0, -1, -1], [3, 2], [0], ("free", 1)),
            ([0, 1, -1], [2, 1], None, ("envy", 2, 1)),
            ([0, 1, -1], [2, 1], [0, 1, 2], ("envy", 2, 1)),
            ([1, 0, -1], [1, 1], [0, 1], ("envy", 0, 0)),
        ):
            for seeker in range(3):
                self.refuses(NotAccepted(fault), self.ask(), example(), lot, held, prices, seeker)
        table = Table([1, 1], [[4, 0], [3, 2], [2, 2]], 3)
        self.refuses(NotAccepted(("seeker", 0)), self.ask(), table, [0], [1, -1, -1], [0, 0], 0)
        self.refuses(NotAccepted(("seeker", 0)), self.ask(), table, [0], [1, -1, -1], [0, 0], 1)


class BestWayRefusalTest(Case):
    def test_in_the_lot(self):
        for seeker in (0, 1):
            self.refuses(Unfit(("lot", seeker)), best_way, example(), [0, 1], [0, 1, -1], [1, 0], seeker)
        row = least_prices(example())
        for seeker in range(3):
            self.refuses(Unfit(("lot", seeker)), best_way, example(), None, [0, 1, -1], row, seeker)
            self.refuses(Unfit(("lot", seeker)), best_way, example(), [0, 1, 2], [0, 1, -1], row, seeker)
