import random

from heldbest.errors import BadStart, BadWord, NotBest, NotOneChange, OutOfRange
from heldbest.judging import judge
from heldbest.leastrows import least_prices
from heldbest.moments import held_now, lot_now, prices_now, slips_now, taken_now
from heldbest.plain import plain_best
from heldbest.seats import value
from heldbest.solving import solve
from heldbest.starts import start_fault, start_held, start_of
from heldbest.strands import difference
from heldbest.tables import Table
from heldbest.worlds import World, desk_view, seeker_view
from tests.helping import HUGE
from tests.test_events import ROWS, Events, cold, do, done, given

TABLE = Table([1, 1], ROWS, 4)
SAME = ("same",)


def turned(world):
    """The newest era, as it is told."""
    newest = world.gazette
    table = world.newest_table
    return (world.newest_era, table.places, table.rows, table.most, newest.newest_start)


class ChangeTest(Events):
    def test_changes(self):
        world = done(cold())
        self.assertEqual(turned(world), (1, (1, 1), ROWS, 4, ((), ())))
        do(world, cold(("row", 1, (0, 9))))
        self.assertEqual(turned(world), (2, (1, 1), ((4, 1), (0, 9), (2, 2)), 4, ((), ())))
        do(world, cold(("places", 1, 5)))
        self.assertEqual(turned(world), (3, (1, 5), ((4, 1), (0, 9), (2, 2)), 4, ((), ())))
        self.assertEqual(world.gazette.table_of(1).rows, ROWS)

    def test_no_house_moves(self):
        world = done(("nudge", 0), ("bring", 0), ("sync", 0), ("bring", 0))
        before = (desk_view(world, 0), seeker_view(world, 0), world.net.letters)
        do(world, cold(("row", 0, (0, 0))), ("turn", SAME, "best", ()))
        self.assertEqual((desk_view(world, 0), seeker_view(world, 0), world.net.letters), before)

    def test_what_is_refused(self):
        world = done()
        for how, start in (("cold", ()), ("given", ((9, 9),)), ("other", ()), ("mend", ())):
            for wrong in ("", "rows", "Same", "joined", "cold"):
                self.stays(BadWord(wrong), world, ("turn", (wrong,), how, start), ("turn", (wrong, -1, ()), how, start))
            for wrong in (-1, 3, HUGE):
                self.stays(OutOfRange("seeker", wrong), world, ("turn", ("row", wrong, (100,)), how, start))
            for length in (0, 1, 3):
                self.stays(OutOfRange("row", length), world, ("turn", ("row", 2, (100,) * length), how, start))
            for wrong in (-1, 100, HUGE):
                self.stays(OutOfRange("worth", wrong), world, ("turn", ("row", 2, (0, wrong)), how, start))
            for wrong in (-1, 2, HUGE):
                self.stays(OutOfRange("desk", wrong), world, ("turn", ("places", wrong, 0), how, start))
            for wrong in (0, 10, -1, HUGE):
                self.stays(OutOfRange("places", wrong), world, ("turn", ("places", 1, wrong), how, start))
        for wrong in ("", "Cold", "warm", "same", "row"):
            self.stays(BadWord(wrong), world, ("turn", SAME, wrong, ()), ("turn", ("places", 0, 9), wrong, ((9, 9),)))

    def test_1000_eras(self):
        world = done(*[cold()] * 998)
        self.assertEqual(world.newest_era, 998)
        do(world, cold(("row", 0, (9, 9))))
        self.assertEqual((world.newest_era, len(world.events)), (999, 999))
        error = OutOfRange("era", 1000)
        self.stays(error, world, cold(), ("turn", ("no",), "no", ()), ("turn", ("row", -1, ()), "mend", ()),
                   ("turn", SAME, "given", ((9, 9),)))
        do(world, ("nudge", 0), ("bring", 0), ("sync", 0), ("bring", 0))
        self.assertEqual(seeker_view(world, 0)[:3], (999, "settled", (0, 1)))


class BestTest(Events):
    def test_best(self):
        for change, table in (
            (SAME, TABLE),
            (("row", 2, (9, 9)), Table([1, 1], (*ROWS[:2], (9, 9)), 4)),
            (("places", 0, 9), Table([9, 1], ROWS, 4)),
        ):
            world = done(("turn", change, "best", ()))
            held, prices = solve(table)
            self.assertEqual(turned(world), (1, table.places, table.rows, 4, start_of(table, held, prices)))
            self.assertEqual((held_now(world), taken_now(world)), (held, 0))
            self.assertEqual(prices_now(world), tuple(11 * price for price in prices))

    def test_houses_come_to_it(self):
        world = done(("turn", SAME, "best", ()))
        start = world.gazette.newest_start
        do(world, ("serve",))
        self.assertEqual([desk_view(world, desk)[3] for desk in (0, 1)], list(start))
        self.assertEqual([seeker_view(world, seeker)[1] for seeker in (0, 1, 2)].count("settled"), 2)


class MendTest(Events):
    def test_behind_what_is_not_best(self):
        world = done()
        self.stays(NotBest(6), world, ("turn", SAME, "mend", ()), ("turn", ("places", 0, 3), "mend", ()))
        do(world, given(((0, 30),), ((2, 20),)))
        self.assertEqual(held_now(world), (0, -1, 1))
        do(world, ("turn", SAME, "mend", ()))
        self.assertEqual(held_now(world), (0, -1, 1))
        do(world, given(((0, 0),), ()))
        self.stays(NotBest(6), world, ("turn", SAME, "mend", ()))

    def test_more_than_one_change(self):
        world = done(("turn", SAME, "best", ()))
        self.stays(NotOneChange(), world, ("turn", ("places", 0, 3), "mend", ()), ("turn", ("places", 1, 9), "mend", ()))
        do(world, ("turn", ("places", 0, 2), "mend", ()))
        do(world, ("turn", ("places", 0, 1), "mend", ()))
        do(world, ("turn", ("places", 0, 3), "best", ()))
        self.stays(NotOneChange(), world, ("turn", ("places", 0, 1), "mend", ()))

    def test_a_row(self):
        world = done(("turn", SAME, "best", ()))
        do(world, ("turn", ("row", 0, (0, 0)), "mend", ()))
        table = Table([1, 1], ((0, 0), *ROWS[1:]), 4)
        held = held_now(world)
        self.assertEqual(turned(world), (2, (1, 1), table.rows, 4, start_of(table, held, least_prices(table))))
        self.assertEqual((held, value(table, held)), ((-1, 0, 1), 5))

    def test_behind_several_joins(self):
        world = done(("turn", SAME, "best", ()), ("join", (0, 0)))
        do(world, ("turn", ("row", 3, (0, 9)), "mend", ()))
        self.assertEqual(value(world.newest_table, held_now(world)), 13)
        world = done(("turn", SAME, "best", ()), ("join", (5, 0)), most=6)
        do(world, ("serve",))
        self.stays(NotBest(7), world, ("turn", SAME, "mend", ()))
        do(world, *[("serve",)] * 90)
        do(world, ("join", (0, 1)), ("join", (1, 0)), ("turn", ("row", 5, (9, 0)), "mend", ()))
        self.assertEqual(value(world.newest_table, held_now(world)), 11)

    def test_drawn_changes(self):
        source = random.Random(40)
        for _ in range(40):
            rows = [[source.randint(0, 4) for _ in range(2)] for _ in range(4)]
            world = World(Table([source.randint(1, 2), 1], rows, 4))
            do(world, ("turn", SAME, "best", ()))
            for _ in range(8):
                before, table = held_now(world), world.newest_table
                change = source.choice((
                    SAME,
                    ("row", source.randrange(4), [source.randint(0, 4) for _ in range(2)]),
                    ("places", 0, max(1, table.places[0] + source.choice((-1, 1)))),
                ))
                do(world, ("turn", change, "mend", ()))
                held, table = held_now(world), world.newest_table
                self.assertEqual(value(table, held), plain_best(table)[0])
                self.assertEqual(prices_now(world), tuple(table.scale * price for price in least_prices(table)))
                if change[0] != "row" and sum(table.places) >= sum(world.gazette.table_of(world.newest_era - 1).places):
                    self.assertLessEqual(len(difference(table, before, held)), 1)


class GivenTest(Events):
    def test_the_examples(self):
        world = done(("turn", ("row", 0, (0, 0)), "cold", ()))
        self.assertEqual(turned(world), (1, (1, 1), ((0, 0), *ROWS[1:]), 4, ((), ())))
        start = (((0, 30),), ())
        world = done(("turn", ("places", 1, 2), "given", start), rows=((4, 1), (0, 2), (0, 2)))
        self.assertEqual(turned(world), (1, (1, 2), ((4, 1), (0, 2), (0, 2)), 4, start))
        self.assertEqual((held_now(world), lot_now(world)), ((0, -1, -1), (0,)))

    def test_refusals(self):
        world = done()
        for length in (0, 1, 3):
            self.stays(OutOfRange("start", length), world, given(*[((9, 9),)] * length))
        self.stays(OutOfRange("seeker", 3), world, given(((0, 0), (3, -1)), ((0, -1),)))
        self.stays(OutOfRange("seeker", -1), world, given((), ((-1, 0),)))
        self.stays(OutOfRange("amount", -1), world, given(((0, -1), (3, -1)), ()))
        self.stays(OutOfRange("amount", 10000), world, given((), ((0, 10000),)))

    def test_faults(self):
        world = done(("turn", ("places", 0, 2), "cold", ()), ("turn", ("row", 2, (2, 0)), "cold", ()))
        for start, fault in (
            ((((0, 5), (1, 5), (2, 5)), ()), ("places", 0)),
            ((((1, 5), (0, 5)), ()), ("order", 0)),
            (((), ((2, 0),)), ("worth", 1, 2)),
            (((), ((0, 12),)), ("amount", 1, 0)),
            ((((1, 5),), ((1, 5),)), ("twice", 1)),
            (((), ((0, 5),)), ("envy", 0, 0)),
        ):
            self.assertEqual(start_fault(world.newest_table, start), fault)
            self.stays(BadStart(fault), world, given(*start))

    def test_the_start_is_looked_at_for_the_new_table(self):
        world = done()
        start = (((0, 5), (1, 5)), ())
        self.stays(BadStart(("places", 0)), world, given(*start))
        do(world, ("turn", ("places", 0, 2), "given", start))
        self.assertEqual(world.gazette.newest_start, start)
        self.stays(BadStart(("worth", 0, 0)), world, ("turn", ("row", 0, (0, 9)), "given", start))

    def test_what_is_held_behind_it(self):
        world = done(given(((0, 33),), ((2, 22),)))
        table = world.newest_table
        self.assertEqual(held_now(world), start_held(table, world.gazette.newest_start))
        self.assertEqual(slips_now(world), ((0, 1, 0, 33, ((0, 33),)), (1, 1, 0, 22, ((2, 22),))))
        self.answers(None, judge, table, held_now(world), prices_now(world), lot=lot_now(world), measure=11, slack=1)
