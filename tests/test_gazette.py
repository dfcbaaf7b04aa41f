from heldbest.errors import BadStart, OutOfRange
from heldbest.gazette import Gazette
from heldbest.tables import Table
from tests.helping import HUGE, Case, example, shown

COLD = ((), ())
WARM = (((0, 30),), ((1, 20),))


def state(gazette):
    eras = range(gazette.newest + 1)
    told = [(gazette.table_of(era), gazette.start_of_era(era)) for era in eras]
    return (gazette.newest, gazette.newest_table, gazette.newest_start, gazette.cold, told)


def with_eras(table, many):
    gazette = Gazette(table)
    for _ in range(many - 1):
        gazette.turn(table, [()] * table.desks)
    return gazette


class GazetteTest(Case):
    def stays(self, error, gazette, ask, *passed):
        before = shown(state(gazette))
        self.refuses(error, ask, *passed)
        self.assertEqual(shown(state(gazette)), before)

    def test_era_0(self):
        self.answers((0, example(), COLD, True, [(example(), COLD)]), state, Gazette(example()))
        table = Table([1], [], 1)
        self.answers((0, table, ((),), True, [(table, ((),))]), state, Gazette(table=table))

    def test_turns(self):
        gazette = Gazette(example())
        other = Table([2, 9], [[4, 1], [0, 0], [2, 2]], 5)
        self.assertIsNone(gazette.turn(example(), [[[0, 30]], [[1, 20]]]))
        gazette.turn(table=other, start=COLD)
        gazette.turn(other, [[(0, 0)], []])
        told = [(example(), COLD), (example(), WARM), (other, COLD), (other, (((0, 0),), ()))]
        self.answers((3, other, (((0, 0),), ()), False, told), state, gazette)

    def test_cold(self):
        gazette = Gazette(example())
        self.answers(True, lambda: gazette.cold)
        for start, cold in ((WARM, False), (COLD, True), (((), ((2, 1),)), False), ((((0, 5),), ()), False), (COLD, True)):
            gazette.turn(example(), start)
            self.answers(cold, lambda: gazette.cold)

    def test_a_table_of_another_size_of_places_and_most(self):
        gazette = Gazette(example())
        other = Table([9, 9], [[0, 0], [9, 99], [0, 1]], 30)
        gazette.turn(other, ((), ((1, 90 * 37), (2, 37))))
        self.assertEqual(shown(gazette.newest_table), shown(other))

    def test_eras_that_are_not_there(self):
        gazette = with_eras(example(), 3)
        for wrong in (-1, 3, HUGE, -HUGE):
            self.stays(OutOfRange("era", wrong), gazette, gazette.table_of, wrong)
            self.stays(OutOfRange("era", wrong), gazette, gazette.start_of_era, wrong)
        self.answers(example(), gazette.table_of, era=2)
        self.answers(COLD, gazette.start_of_era, era=2)
        self.refuses(OutOfRange("era", 1), Gazette(example()).table_of, 1)

    def test_admit(self):
        old, new = Table([1, 2], [[4, 1]], 3), Table([1, 2], [[4, 1], [0, 9]], 3)
        gazette = Gazette(old)
        gazette.turn(old, [[(0, 5)], []])
        self.assertIsNone(gazette.admit(row=[0, 9]))
        start = (((0, 5),), ())
        self.answers((1, new, start, False, [(old, COLD), (new, start)]), state, gazette)
        gazette.turn(new, COLD)
        gazette.admit((1, 1))
        self.assertEqual([gazette.table_of(era).seekers for era in range(3)], [1, 2, 3])
        self.assertEqual(gazette.newest_table.rows, ((4, 1), (0, 9), (1, 1)))

    def test_admit_refuses(self):
        gazette = Gazette(example())
        self.stays(OutOfRange("row", 1), gazette, gazette.admit, [100])
        self.stays(OutOfRange("worth", -1), gazette, gazette.admit, [-1, 100])
        self.stays(OutOfRange("worth", 100), gazette, gazette.admit, [0, 100])
        self.stays(OutOfRange("seekers", 4), gazette, gazette.admit, [0, 0])
        gazette.turn(Table([1, 1], example().rows, 4), COLD)
        gazette.admit([0, 0])
        self.stays(OutOfRange("seekers", 5), gazette, gazette.admit, [0, 0])

    def test_turn_refuses(self):
        gazette = with_eras(example(), 2)
        for desks in (1, 3):
            table = Table([1] * desks, [], 1)
            self.stays(OutOfRange("desks", desks), gazette, gazette.turn, table, [[(9, -1)]])
        for seekers in (0, 2, 4):
            table = Table([1, 1], [[1, 1]] * seekers, 30)
            self.stays(OutOfRange("seekers", seekers), gazette, gazette.turn, table, [[(9, -1)]])
        for length in (0, 1, 3):
            self.stays(OutOfRange("start", length), gazette, gazette.turn, example(), [[(9, -1)]] * length)
        self.stays(OutOfRange("seeker", 3), gazette, gazette.turn, example(), [[(0, 50)], [(3, -1)]])
        self.stays(OutOfRange("seeker", -1), gazette, gazette.turn, example(), [[(-1, 50)], [(3, -1)]])
        self.stays(OutOfRange("amount", -1), gazette, gazette.turn, example(), [[(0, 50)], [(2, -1), (3, 0)]])
        self.stays(OutOfRange("amount", 10000), gazette, gazette.turn, example(), [[(0, 10000)], [(2, -1)]])

    def test_starts_with_faults(self):
        gazette = with_eras(example(), 2)
        wide = Table([2, 1], [[4, 1], [3, 2], [2, 0]], 3)
        for table, start, fault in (
            (example(), [[(0, 5), (1, 5)], []], ("places", 0)),
            (wide, [[(1, 5), (0, 5)], []], ("order", 0)),
            (wide, [[], [(2, 0)]], ("worth", 1, 2)),
            (example(), [[], [(0, 11)]], ("amount", 1, 0)),
            (wide, [[(1, 5)], [(1, 5)]], ("twice", 1)),
            (example(), [[(0, 20)], [(1, 20)]], ("envy", 1, 0)),
        ):
            self.stays(BadStart(fault), gazette, gazette.turn, table, start)

    def test_1000_eras(self):
        table = Table([1], [[5]], 1)
        gazette = with_eras(table, 999)
        self.assertEqual(gazette.newest, 998)
        gazette.turn(table, [[(0, 5)]])
        self.assertEqual(gazette.newest, 999)
        self.answers((((0, 5),),), gazette.start_of_era, 999)
        self.refuses(OutOfRange("era", 1000), gazette.table_of, 1000)
        self.stays(OutOfRange("era", 1000), gazette, gazette.turn, table, [()])
        self.stays(OutOfRange("era", 1000), gazette, gazette.turn, Table([1, 1], [], 1), [])

    def test_later_changes_have_no_effect(self):
        start = [[[0, 30]], [[1, 20]]]
        gazette = Gazette(example())
        gazette.turn(example(), start)
        self.assertEqual(start, [[[0, 30]], [[1, 20]]])
        start[0][0][1] = 31
        start[1].pop()
        self.assertEqual(gazette.newest_start, WARM)
        row = [1, 1]
        gazette = Gazette(Table([1, 1], [], 1))
        gazette.admit(row)
        row[0] = 2
        self.assertEqual(gazette.newest_table.rows, ((1, 1),))
