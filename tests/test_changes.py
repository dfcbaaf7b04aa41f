from heldbest.changes import changed
from heldbest.edits import joined, placed, rowed, valued
from heldbest.errors import NotOneChange
from heldbest.tables import Table
from tests.helping import Case

ROWS = ((4, 1), (3, 2), (2, 2))


def table(places=(2, 5), rows=ROWS, most=5):
    return Table(places, rows, most)


class ChangesTest(Case):
    def refuses_both_ways(self, before, after):
        self.refuses(NotOneChange(), changed, before, after)
        self.refuses(NotOneChange(), changed, after, before)

    def test_no_change(self):
        self.answers(None, changed, table(), table())
        self.answers(None, changed, table([1], [], 1), table([1], [], 1))
        self.answers(None, changed, table(), valued(table(), 0, 0, 4))

    def test_joined(self):
        self.answers(("joined", 3), changed, table(), joined(table(), [0, 7]))
        self.answers(("joined", 3), changed, table(), joined(table(), [2, 2]))
        self.answers(("joined", 0), changed, table(rows=()), table(rows=[(1, 1)]))
        self.answers(("joined", 1), changed, before=table(rows=ROWS[:1]), after=table(rows=ROWS[:2]))

    def test_rows(self):
        for seeker in range(3):
            self.answers(("row", seeker), changed, table(), rowed(table(), seeker, [9, 9]))
            self.answers(("row", seeker), changed, rowed(table(), seeker, [9, 9]), table())
            for desk in range(2):
                self.answers(("row", seeker), changed, table(), valued(table(), seeker, desk, 8))
                self.answers(("row", seeker), changed, valued(table(), seeker, desk, 8), table())

    def test_places(self):
        for desk, places in ((0, 1), (0, 3), (1, 4), (1, 6)):
            self.answers(("places", desk), changed, table(), placed(table(), desk, places))
            self.answers(("places", desk), changed, placed(table(), desk, places), table())
        self.answers(("places", 0), changed, table([1], [], 1), table([2], [], 1))

    def test_another_most(self):
        self.refuses_both_ways(table(), table(most=6))
        self.refuses_both_ways(table(), table(rows=[*ROWS, (1, 1)], most=6))
        self.refuses_both_ways(table(), table(places=(3, 5), most=6))

    def test_another_number_of_desks(self):
        self.refuses_both_ways(table(), table((2, 5, 1), [(*row, 0) for row in ROWS]))
        self.refuses_both_ways(table((2,), ()), table((2, 5), ()))
        self.refuses_both_ways(table((2,), ()), table((2, 2), ()))
        self.refuses_both_ways(table((2,), ()), table((3, 5), ()))
        self.refuses_both_ways(table((2,), ()), table((1, 2), ()))

    def test_a_seeker_less(self):
        self.refuses(NotOneChange(), changed, table(), table(rows=ROWS[:2]))
        self.refuses(NotOneChange(), changed, table(), table(rows=ROWS[1:]))
        self.refuses(NotOneChange(), changed, table(rows=ROWS[:1]), table(rows=()))

    def test_a_seeker_more_ahead_of_the_others(self):
        self.refuses_both_ways(table(), table(rows=[(9, 9), *ROWS]))
        self.refuses_both_ways(table(), table(rows=[ROWS[0], (9, 9), *ROWS[1:]]))
        self.refuses_both_ways(table(rows=[(1, 1)]), table(rows=[(2, 2), (1, 1)]))

    def test_two_seekers_more(self):
        self.refuses_both_ways(table(), table(rows=[*ROWS, (1, 1), (1, 1)]))
        self.refuses_both_ways(table(rows=()), table(rows=[(1, 1), (1, 1)]))

    def test_a_seeker_more_and_another_row(self):
        self.refuses_both_ways(table(), table(rows=[(4, 2), *ROWS[1:], (1, 1)]))

    def test_a_seeker_more_and_a_place(self):
        self.refuses_both_ways(table(), table((3, 5), [*ROWS, (1, 1)]))

    def test_two_rows(self):
        self.refuses_both_ways(table(), table(rows=[(4, 2), (3, 1), (2, 2)]))
        self.refuses_both_ways(table(), table(rows=[(3, 2), (4, 1), (2, 2)]))
        self.refuses_both_ways(table(), table(rows=[(4, 2), (3, 2), (2, 3)]))

    def test_a_place_more_by_two(self):
        self.refuses_both_ways(table(), table((4, 5)))
        self.refuses_both_ways(table(), table((2, 7)))
        self.refuses_both_ways(table(), table((2, 9)))

    def test_two_desks(self):
        self.refuses_both_ways(table(), table((3, 6)))
        self.refuses_both_ways(table(), table((3, 4)))
        self.refuses_both_ways(table(), table((5, 2)))

    def test_a_row_and_a_place(self):
        self.refuses_both_ways(table(), table((3, 5), [(4, 2), *ROWS[1:]]))
        self.refuses_both_ways(table(), table((2, 4), [*ROWS[:2], (0, 0)]))
