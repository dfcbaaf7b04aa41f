from heldbest.edits import joined, only, placed, rowed, valued
from heldbest.errors import OutOfRange
from heldbest.tables import Table
from tests.helping import Case, example, shown

HUGE = 10 ** 40
ROWS = ((4, 1), (3, 2), (2, 2))


def with_cell(seeker, desk, worth):
    rows = [list(row) for row in ROWS]
    rows[seeker][desk] = worth
    return rows


class EditsTest(Case):
    def test_joined(self):
        before = Table([1, 2], [[4, 0]], 3)
        self.answers(Table([1, 2], [[4, 0], [0, 99]], 3), joined, before, [0, 99])
        self.answers(Table([1, 2], [[7, 7]], 3), joined, Table([1, 2], [], 3), [7, 7])
        self.answers(Table([1, 2], [[4, 0], [1, 2]], 3), joined, table=before, row=[1, 2])
        self.assertEqual(joined(Table([1], [[1]] * 29, 30), [5]).seekers, 30)

    def test_joined_refusals(self):
        table = Table([1, 2], [[4, 0]], 3)
        for length in (0, 1, 3):
            self.refuses(OutOfRange("row", length), joined, table, [100] * length)
        for wrong in (-1, 100, HUGE, -HUGE):
            self.refuses(OutOfRange("worth", wrong), joined, table, [5, wrong])
            self.refuses(OutOfRange("worth", wrong), joined, table, [wrong, -3])
        self.refuses(OutOfRange("seekers", 4), joined, example(), [1, 1])
        self.refuses(OutOfRange("seekers", 31), joined, Table([1], [[1]] * 30, 30), [1])
        self.refuses(OutOfRange("row", 1), joined, example(), [100])
        self.refuses(OutOfRange("worth", 100), joined, example(), [1, 100])

    def test_rowed(self):
        for seeker in range(3):
            rows = list(ROWS)
            rows[seeker] = (0, 99)
            self.answers(Table([1, 1], rows, 3), rowed, example(), seeker, [0, 99])
        self.answers(example(), rowed, table=example(), seeker=0, row=[4, 1])

    def test_rowed_refusals(self):
        for wrong in (-1, 3, HUGE, -HUGE):
            self.refuses(OutOfRange("seeker", wrong), rowed, example(), wrong, [1, 1])
            self.refuses(OutOfRange("seeker", wrong), rowed, example(), wrong, [])
        for length in (0, 1, 3):
            self.refuses(OutOfRange("row", length), rowed, example(), 0, [-1] * length)
        self.refuses(OutOfRange("worth", 100), rowed, example(), 2, [99, 100])
        self.refuses(OutOfRange("worth", -1), rowed, example(), 2, [-1, 100])

    def test_valued(self):
        for seeker in range(3):
            for desk in range(2):
                for worth in (0, 50, 99):
                    expected = Table([1, 1], with_cell(seeker, desk, worth), 3)
                    self.answers(expected, valued, example(), seeker, desk, worth)
        expected = Table([1, 1], with_cell(2, 1, 9), 3)
        self.answers(expected, valued, table=example(), seeker=2, desk=1, worth=9)

    def test_valued_refusals(self):
        for wrong in (-1, 3, HUGE, -HUGE):
            self.refuses(OutOfRange("seeker", wrong), valued, example(), wrong, 2, 100)
        for wrong in (-1, -2, 2, HUGE, -HUGE):
            self.refuses(OutOfRange("desk", wrong), valued, example(), 0, wrong, 1)
            self.refuses(OutOfRange("desk", wrong), valued, example(), 0, wrong, 100)
        for wrong in (-1, 100, HUGE, -HUGE):
            self.refuses(OutOfRange("worth", wrong), valued, example(), 0, 0, wrong)

    def test_placed(self):
        for desk in range(2):
            for number in (1, 2, 9):
                places = [1, 1]
                places[desk] = number
                self.answers(Table(places, ROWS, 3), placed, example(), desk, number)
        self.answers(Table([1, 4], ROWS, 3), placed, table=example(), desk=1, places=4)

    def test_placed_refusals(self):
        for wrong in (-1, 2, HUGE, -HUGE):
            self.refuses(OutOfRange("desk", wrong), placed, example(), wrong, 1)
            self.refuses(OutOfRange("desk", wrong), placed, example(), wrong, 0)
        for wrong in (0, -1, 10, HUGE, -HUGE):
            self.refuses(OutOfRange("places", wrong), placed, example(), 1, wrong)

    def test_only(self):
        for lot in ((), (0,), (1,), (2,), (0, 1), (0, 2), (1, 2), (0, 1, 2)):
            rows = [row if seeker in lot else (0, 0) for seeker, row in enumerate(ROWS)]
            self.answers(Table([1, 1], rows, 3), only, example(), lot)
        self.answers(example(), only, example(), None)
        self.answers(Table([1, 1], [ROWS[0], (0, 0), (0, 0)], 3), only, table=example(), lot=[0])
        self.answers(Table([1], [], 1), only, Table([1], [], 1), [])

    def test_only_refusals(self):
        for wrong in (-1, 3, HUGE, -HUGE):
            self.refuses(OutOfRange("seeker", wrong), only, example(), [wrong])
            self.refuses(OutOfRange("seeker", wrong), only, example(), [0, wrong])
        self.refuses(OutOfRange("seeker", 1), only, example(), [1, 1])
        self.refuses(OutOfRange("seeker", 0), only, example(), [1, 0, 5])

    def test_later_changes_have_no_effect(self):
        row = [5, 6]
        tables = (joined(Table([1, 1], ROWS, 9), row), rowed(example(), 1, row))
        row[0] = 9
        row.append(9)
        self.assertEqual([table.rows[-1] for table in tables], [(5, 6), (2, 2)])
        self.assertEqual(tables[1].rows[1], (5, 6))

    def test_the_edited_table_stays(self):
        table = Table([1, 1], ROWS, 5)
        for ask, passed in (
            (joined, ((1, 1),)), (rowed, (0, (9, 9))), (valued, (1, 1, 9)), (placed, (0, 9)), (only, ((),)),
        ):
            ask(table, *passed)
            self.assertEqual(shown(table), shown(Table([1, 1], ROWS, 5)))
            self.assertEqual(table.scale, 12)
