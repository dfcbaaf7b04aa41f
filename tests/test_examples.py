"""The examples of the document, as far as the modules that there are can answer them."""

from heldbest.choosing import choose, left_at
from heldbest.corners import cell_use, corner
from heldbest.entries import take
from heldbest.errors import OutOfRange, Unread
from heldbest.falserows import nets
from heldbest.judging import judge
from heldbest.leastrows import least_prices
from heldbest.letters import write_letter
from heldbest.plain import plain_bests
from heldbest.reasons import reason, reason_fault
from heldbest.records import read_records
from heldbest.solving import best_value
from heldbest.starts import start_fault
from heldbest.strands import difference
from heldbest.tables import Table
from heldbest.tabletexts import read_table
from tests.helping import Case


class ExamplesTest(Case):
    def test_the_first_table(self):
        table = read_table('most 3\nplaces 1 1\nrow 4 1\nrow 3 2\nrow 2 2')
        self.assertEqual((table.scale, best_value(table), least_prices(table)), (10, 6, (3, 2)))
        self.assertEqual(plain_bests(table), ((0, -1, 1), (0, 1, -1)))

    def test_the_judge(self):
        table = read_table('most 3\nplaces 1 1\nrow 4 1\nrow 3 2\nrow 2 2')
        self.answers(('envy', 2, 1), judge, table, (0, 1, -1), (2, 1))

    def test_a_difference(self):
        table = read_table('most 3\nplaces 1 1\nrow 4 1\nrow 3 2\nrow 2 2')
        self.answers(((True, ((0, 0, 1), (1, 1, 0))),), difference, table, (0, 1, -1), (1, 0, -1))

    def test_a_text_that_is_unread(self):
        self.refuses(Unread(3), read_table, 'most 3\nplaces 1 1\nrow 4 01')

    def test_a_table_that_is_refused(self):
        self.refuses(OutOfRange('most', 0), Table, [1], [[5]], 0)

    def test_a_bid_that_is_taken(self):
        self.answers(('taken', ((0, 5), (1, 4)), 2), take, ((1, 4), (2, 4)), 2, 0, 5)

    def test_a_table_text(self):
        table = read_table('most 3\nplaces 1 2\nrow 4 0')
        self.assertEqual((table.desks, table.seekers, table.most, table.places), (2, 1, 3, (1, 2)))

    def test_a_strand(self):
        table = Table([1, 1], [[1, 1], [1, 1]], 3)
        self.answers(((False, ((1, -1, 0), (0, 0, -1))),), difference, table, (0, -1), (-1, 0))

    def test_two_starts(self):
        table = read_table('most 3\nplaces 1 1\nrow 4 1\nrow 3 2\nrow 2 2')
        self.answers(('envy', 1, 0), start_fault, table, (((0, 20),), ((1, 20),)))
        self.answers(None, start_fault, table, (((0, 30),), ((1, 20),)))

    def test_a_corner(self):
        table = read_table('most 3\nplaces 1 1\nrow 4 1\nrow 3 2\nrow 2 2')
        self.answers(4, corner, table, 2, 0)
        self.answers(-1, cell_use, table, 2, 0)

    def test_false_rows(self):
        table = read_table('most 3\nplaces 1 1\nrow 4 1\nrow 3 2\nrow 2 2')
        self.answers((0, 0), nets, table, 2, (5, 5))

    def test_reasons(self):
        table = read_table('most 3\nplaces 1 1\nrow 4 1\nrow 3 2\nrow 2 2')
        self.answers(((2, 1),), reason, table, (0, 1, -1), (3, 2), 1)
        self.answers(None, reason_fault, table, (0, 1, -1), (3, 2), 0, ((2, 1), (1, 0)))

    def test_a_choice(self):
        self.answers((0, 30), choose, (4, 1), 10, (29, 0))
        self.answers((11, 10), left_at, (4, 1), 10, (29, 0))

    def test_a_letter(self):
        self.answers('bid 0 2 1 5', write_letter, ('bid', 0, 2, 1, 5))

    def test_a_torn_text(self):
        self.answers(((('take', '1', '1'),), True), read_records, 'take 1 1 2105\ntake 2 5 21')
