from heldbest.edits import joined, placed, rowed, valued
from heldbest.errors import NotBest, NotOneChange, OutOfRange, Unfit
from heldbest.mending import mend
from heldbest.plain import plain_best, plain_bests
from heldbest.seats import seat_fault, value
from heldbest.solving import best_value, solve
from heldbest.tables import Table
from tests.helping import HUGE, Case, example
from tests.plainly import plain_strands, some_tables
from tests.test_solving import BROAD, MIDDLE, WIDE

SMALL = [example(), *some_tables(31, 25, most=6)]
ROWS = ((0, 0, 0), (1, 1, 1), (4, 0, 2), (0, 3, 3), (5, 5, 0), (2, 4, 6))


def next_tables(table):
    """Tables that differ from the table by one change, of each kind."""
    rows = [row[:table.desks] for row in ROWS]
    for row in rows:
        if table.seekers < table.most:
            yield joined(table, row)
    for seeker in range(table.seekers):
        for row in rows:
            yield rowed(table, seeker, row)
        for desk in range(table.desks):
            yield valued(table, seeker, desk, 0)
            yield valued(table, seeker, desk, table.worth(seeker, desk) + 1)
    for desk, count in enumerate(table.places):
        yield placed(table, desk, count + 1)
        if count > 1:
            yield placed(table, desk, count - 1)


class MendTest(Case):
    def mended(self, table, held, after):
        """Point 20: the answer is a best assignment, and the strand is all of the difference."""
        answer = mend(table, held, after)
        before = (*held, *[-1] * (after.seekers - table.seekers))
        self.assertIsNone(seat_fault(after, answer[0]))
        self.assertEqual(value(after, answer[0]), best_value(after))
        if seat_fault(after, before) is None and value(after, before) == best_value(after):
            self.assertEqual(answer, (before, None))
        else:
            self.assertEqual(plain_strands(after, before, answer[0]), (answer[1],))
        return answer

    def test_small_tables(self):
        for table in SMALL:
            for held in plain_bests(table):
                self.answers((held, None), mend, table, held, Table(table.places, table.rows, table.most))
                for after in next_tables(table):
                    self.assertIn(self.mended(table, held, after)[0], plain_bests(after))

    def test_there_and_back(self):
        for table in SMALL:
            for after in next_tables(table):
                if after.seekers == table.seekers:
                    there = self.mended(table, solve(table)[0], after)[0]
                    self.mended(after, there, table)

    def test_great_tables(self):
        for table in (WIDE, BROAD, MIDDLE):
            held = solve(table)[0]
            for seeker in (0, 13, 29):
                for row in ([0] * 6, [99] * 6, [0, 99, 1, 98, 2, 97], table.rows[seeker][::-1]):
                    self.mended(table, held, rowed(table, seeker, row))
            for desk, count in enumerate(table.places):
                for places in (count - 1, count + 1):
                    if 1 <= places <= 9:
                        self.mended(table, held, placed(table, desk, places))
            less = Table(table.places, table.rows[:-1], 30)
            self.mended(less, solve(less)[0], table)

    def test_joined(self):
        table = Table([1], [[5]], 3)
        self.answers(((0, -1), None), mend, table, [0], joined(table, [5]))
        self.answers(((0, -1), None), mend, table, [0], joined(table, [0]))
        self.answers(((-1, 0), (False, ((1, -1, 0), (0, 0, -1)))), mend, table, [0], joined(table, [6]))
        empty = Table([1], [], 1)
        self.answers(((0,), (False, ((0, -1, 0),))), mend, empty, [], joined(empty, [1]))
        self.answers(((-1,), None), mend, empty, [], joined(empty, [0]))

    def test_a_row(self):
        table = Table([1, 1], [[4, 3], [3, 1]], 3)
        self.answers(((1, 0), None), mend, table, [1, 0], rowed(table, 0, [4, 2]))
        self.answers(((0, 1), (True, ((0, 1, 0), (1, 0, 1)))), mend, table, [1, 0], rowed(table, 0, [9, 3]))
        self.answers(((-1, 0), (False, ((0, 1, -1),))), mend, table, [1, 0], rowed(table, 0, [0, 0]))
        self.answers(((0, 1), (True, ((0, 1, 0), (1, 0, 1)))), mend, table, [1, 0], rowed(table, 1, [0, 9]))
        self.answers(((0, -1), (False, ((0, 1, 0), (1, 0, -1)))), mend, table, [1, 0], rowed(table, 1, [0, 0]))

    def test_a_strand_through_those_who_hold_nothing(self):
        table = Table([1, 1], [[5, 0], [0, 5], [4, 0]], 3)
        held = (0, 1, -1)
        strand = (False, ((2, -1, 0), (0, 0, 1), (1, 1, -1)))
        self.answers(((1, -1, 0), strand), mend, table, held, rowed(table, 0, [0, 9]))

    def test_places(self):
        table = Table([1, 2], [[4, 1], [3, 2], [2, 2]], 3)
        self.answers(((0, 1, 1), None), mend, table, [0, 1, 1], placed(table, 1, 3))
        self.answers(((0, 0, 1), (False, ((1, 1, 0),))), mend, table, [0, 1, 1], placed(table, 0, 2))
        narrow = placed(table, 1, 1)
        answer = self.mended(table, (0, 1, 1), narrow)
        self.assertIn(answer[1], ((False, ((1, 1, -1),)), (False, ((2, 1, -1),))))
        self.answers(((0,), None), mend, Table([3], [[1]], 1), [0], Table([2], [[1]], 1))
        tight = Table([1, 1, 2], [[9, 8, 0], [9, 7, 0], [0, 9, 8], [0, 0, 1]], 4)
        for held in plain_bests(tight):
            self.mended(tight, held, placed(tight, 2, 1))

    def test_tables_that_do_not_differ(self):
        for held in plain_bests(example()):
            self.answers((held, None), mend, example(), held, example())
        self.answers(((), None), mend, Table([1], [], 1), [], Table([1], [], 1))

    def test_by_name(self):
        self.answers(((0, 1, -1), None), mend, before=example(), held=[0, 1, -1], after=example())


class MendRefusalsTest(Case):
    def setUp(self):
        self.far = Table([2, 2], [[0, 9]], 9)

    def test_held(self):
        after = joined(Table([1, 1], example().rows, 4), [0, 0])
        for length in (0, 2, 4):
            self.refuses(OutOfRange("held", length), mend, example(), [9] * length, self.far)
            self.refuses(OutOfRange("held", length), mend, Table([1, 1], example().rows, 4), [9] * length, after)
        for wrong in (-2, 2, HUGE, -HUGE):
            self.refuses(OutOfRange("desk", wrong), mend, example(), [0, 0, wrong], self.far)
            self.refuses(OutOfRange("desk", wrong), mend, example(), [0, 0, wrong], example())

    def test_unfit(self):
        table = Table([1, 1], [[4, 0], [3, 2], [2, 2]], 3)
        for held, fault in (([1, -1, -1], ("seeker", 0)), ([-1, 1, 1], ("desk", 1))):
            for after in (self.far, table, placed(table, 0, 2), rowed(table, 0, [4, 4])):
                self.refuses(Unfit(fault), mend, table, held, after)

    def test_not_best(self):
        for held in ([-1, -1, -1], [1, 0, -1], [0, -1, -1], [-1, 0, 1]):
            for after in (self.far, example(), placed(example(), 0, 2), rowed(example(), 0, [0, 0])):
                self.refuses(NotBest(6), mend, example(), held, after)
        self.refuses(NotBest(6), mend, example(), [-1, 0, 1], rowed(example(), 0, [0, 0]))

    def test_not_one_change(self):
        held = plain_best(example())[1]
        two_rows = rowed(rowed(example(), 0, [0, 0]), 1, [0, 0])
        fewer = Table([1, 1], example().rows[:2], 3)
        most = Table([1, 1], example().rows, 4)
        two_places = placed(example(), 0, 3)
        both = rowed(placed(example(), 0, 2), 0, [1, 1])
        for after in (self.far, two_rows, fewer, most, two_places, both):
            self.refuses(NotOneChange(), mend, example(), held, after)
        self.refuses(NotOneChange(), mend, most, held, joined(joined(Table([1, 1], example().rows[:2], 4), [1, 1]), [1, 1]))
