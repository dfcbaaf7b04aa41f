"""The examples of the document, as far as the modules that there are can answer them."""

from heldbest.choosing import choose, left_at
from heldbest.corners import cell_use, corner
from heldbest.entries import take
from heldbest.errors import OutOfRange, Unread
from heldbest.events import act
from heldbest.falserows import nets
from heldbest.judging import judge
from heldbest.leastrows import least_prices
from heldbest.letters import write_letter
from heldbest.moments import held_now, lot_now, slip_now
from heldbest.offices import Office
from heldbest.plain import plain_bests
from heldbest.reasons import reason, reason_fault
from heldbest.records import read_records
from heldbest.slips import slips_fault, slips_lot
from heldbest.solving import best_value
from heldbest.starts import start_fault
from heldbest.strands import difference
from heldbest.tables import Table
from heldbest.tabletexts import read_table
from heldbest.worlds import World, desk_view, disk_view, seeker_view
from heldbest.worldtexts import world_text
from tests.helping import Case


class ExamplesTest(Case):
    def test_the_first_table(self):
        table = read_table('most 3\nplaces 1 1\nrow 4 1\nrow 3 2\nrow 2 2')
        self.assertEqual((table.scale, best_value(table), least_prices(table)), (10, 6, (3, 2)))
        self.assertEqual(plain_bests(table), ((0, -1, 1), (0, 1, -1)))

    def test_the_judge(self):
        table = read_table('most 3\nplaces 1 1\nrow 4 1\nrow 3 2\nrow 2 2')
        self.answers(('envy', 2, 1), judge, table, (0, 1, -1), (2, 1))

    def test_a_difference(self):
        table = read_table('most 3\nplaces 1 1\nrow 4 1\nrow 3 2\nrow 2 2')
        self.answers(((True, ((0, 0, 1), (1, 1, 0))),), difference, table, (0, 1, -1), (1, 0, -1))

    def test_a_text_that_is_unread(self):
        self.refuses(Unread(3), read_table, 'most 3\nplaces 1 1\nrow 4 01')

    def test_a_table_that_is_refused(self):
        self.refuses(OutOfRange('most', 0), Table, [1], [[5]], 0)

    def test_a_bid_that_is_taken(self):
        self.answers(('taken', ((0, 5), (1, 4)), 2), take, ((1, 4), (2, 4)), 2, 0, 5)

    def test_a_table_text(self):
        table = read_table('most 3\nplaces 1 2\nrow 4 0')
        self.assertEqual((table.desks, table.seekers, table.most, table.places), (2, 1, 3, (1, 2)))

    def test_a_strand(self):
        table = Table([1, 1], [[1, 1], [1, 1]], 3)
        self.answers(((False, ((1, -1, 0), (0, 0, -1))),), difference, table, (0, -1), (-1, 0))

    def test_two_starts(self):
        table = read_table('most 3\nplaces 1 1\nrow 4 1\nrow 3 2\nrow 2 2')
        self.answers(('envy', 1, 0), start_fault, table, (((0, 20),), ((1, 20),)))
        self.answers(None, start_fault, table, (((0, 30),), ((1, 20),)))

    def test_a_corner(self):
        table = read_table('most 3\nplaces 1 1\nrow 4 1\nrow 3 2\nrow 2 2')
        self.answers(4, corner, table, 2, 0)
        self.answers(-1, cell_use, table, 2, 0)

    def test_false_rows(self):
        table = read_table('most 3\nplaces 1 1\nrow 4 1\nrow 3 2\nrow 2 2')
        self.answers((0, 0), nets, table, 2, (5, 5))

    def test_reasons(self):
        table = read_table('most 3\nplaces 1 1\nrow 4 1\nrow 3 2\nrow 2 2')
        self.answers(((2, 1),), reason, table, (0, 1, -1), (3, 2), 1)
        self.answers(None, reason_fault, table, (0, 1, -1), (3, 2), 0, ((2, 1), (1, 0)))

    def test_a_choice(self):
        self.answers((0, 30), choose, (4, 1), 10, (29, 0))
        self.answers((11, 10), left_at, (4, 1), 10, (29, 0))

    def test_a_letter(self):
        self.answers('bid 0 2 1 5', write_letter, ('bid', 0, 2, 1, 5))

    def test_a_torn_text(self):
        self.answers(((('take', '1', '1'),), True), read_records, 'take 1 1 2105\ntake 2 5 21')

    def test_a_world_text(self):
        self.answers(
            'era 0\nmost 1\nplaces 1\nrow 1\nstart 0\ndesk 0 up 0 1 0 entries waits\n'
            'seeker 0 up 0 idle -1 0 knows 0 0\n'
            'disk desk 0\nslot 0 18\nhead 0 0 1 0 3759\nslot 1 0\npending none\n'
            'disk seeker 0\nslot 0 19\nhead 0 0 -1 0 4338\nslot 1 0\npending none',
            world_text, World(read_table('most 1\nplaces 1\nrow 1')))

    def world(self, *events):
        world = World(read_table('most 2\nplaces 1\nrow 1\nrow 2'))
        for event in events:
            act(world, event)
        return world

    def test_a_bid_that_is_neither_synced_nor_answered(self):
        world = self.world(('nudge', 1), ('bring', 0))
        self.answers((0, 1, 1, ((1, 1),), (1,)), desk_view, world, 0)
        self.answers((0, False, 'take 1 1 2105\n'), lambda: disk_view(world, 'desk', 0)[2])

    def test_a_bid_that_is_answered(self):
        world = self.world(('nudge', 1), ('bring', 0), ('sync', 0), ('bring', 0))
        self.answers((0, 'settled', (0, 1), ((1, 1),)), seeker_view, world, 1)
        self.answers((0, 0, 1, 1, ((1, 1),)), slip_now, world, 0)
        self.answers((-1, 0), held_now, world)
        self.answers((1,), lot_now, world)

    def test_a_desk_that_falls_before_it_is_synced(self):
        world = self.world(('nudge', 1), ('bring', 0), ('fall', 'desk', 0, 0), ('rise', 'desk', 0))
        self.answers((0, 1, 0, (), ()), desk_view, world, 0)
        self.answers((-1, -1), held_now, world)
        self.answers((), lot_now, world)

    def test_an_office(self):
        office = Office(read_table('most 2\nplaces 1\nrow 1\nrow 2'))
        self.assertEqual(office.tell('rest'), ('rounds 7',))
        self.assertEqual((office.tell('held'), office.tell('bills')), (('held -1 0',), ('bills 1',)))

    def test_slips(self):
        table = read_table('most 3\nplaces 1 1\nrow 4 1\nrow 3 2\nrow 2 2')
        slips = ((0, 0, 4, 31, ((0, 31),)), (1, 0, 9, 20, ((1, 20),)))
        self.answers(None, slips_fault, table, 0, slips)
        self.answers((0, 1, 2), slips_lot, table, 0, slips)
