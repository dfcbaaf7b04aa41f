from heldbest.bills import bill, bills, ledger
from heldbest.errors import NotAtRest, Warm
from heldbest.moments import prices_now
from heldbest.serving import rest
from heldbest.tables import Table
from heldbest.worlds import World
from tests.helping import example
from tests.test_events import Events, cold, do, done


class BillTest(Events):
    def test_bills_of_prices(self):
        for price, expected in ((0, 0), (7, 0), (8, 1), (17, 1), (18, 2), (9999, 1000)):
            self.answers(expected, bill, example(), price)
        self.answers(4, bill, table=Table([1] * 6, [], 1), price=93)
        self.answers(5, bill, table=Table([1] * 6, [], 1), price=94)
        self.answers(204, bill, Table([1] * 6, [], 30), 9999)
        self.answers(1, bill, Table([1], [], 1), 4)

    def test_prices_are_refused(self):
        self.refuses_one("price", (-1, 10000), bill, (example(),))


class WorldBillsTest(Events):
    def at_rest(self, table):
        world = World(table)
        rest(world)
        return world

    def test_the_example(self):
        world = self.at_rest(example())
        self.answers((3, 2), bills, world=world)
        self.answers((3, 2), lambda: tuple((price + 2) // 10 for price in prices_now(world)))
        told = ledger(world)
        self.assertEqual([line[0] for line in told], [0, 1, 2])
        self.assertEqual([line[4] for line in told], [1, 0, 0])
        self.assertIn(told[1:], (((1, 1, 2, 2, 0), (2, -1, 0, 0, 0)), ((1, -1, 0, 0, 0), (2, 1, 2, 2, 0))))
        self.answers(told, ledger, world=world)
        self.assertEqual(told[0], (0, 0, 4, 3, 1))

    def test_a_world_of_one_desk(self):
        world = self.at_rest(Table([1], [[1], [2]], 2))
        self.answers((1,), bills, world)
        self.answers(((0, -1, 0, 0, 0), (1, 0, 2, 1, 1)), ledger, world)

    def test_free_places(self):
        world = self.at_rest(Table([3, 1], [[1, 4], [2, 0], [0, 0]], 3))
        self.answers((0, 0), bills, world)
        self.answers(((0, 1, 4, 0, 4), (1, 0, 2, 0, 2), (2, -1, 0, 0, 0)), ledger, world)

    def test_without_seekers(self):
        world = World(Table([3, 1], [], 3))
        self.answers((0, 0), bills, world)
        self.answers((), ledger, world)

    def test_not_at_rest(self):
        for world in (done(), done(("nudge", 0)), done(("turn", ("same",), "best", ()))):
            self.refuses(NotAtRest(), bills, world)
            self.refuses(NotAtRest(), ledger, world)
        world = self.at_rest(example())
        do(world, ("post", 0))
        self.refuses(NotAtRest(), bills, world)
        self.refuses(NotAtRest(), ledger, world)

    def test_warm(self):
        world = done(cold(), ("turn", ("same",), "best", ()))
        rest(world)
        self.refuses(Warm(2), bills, world)
        self.refuses(Warm(2), ledger, world)
        do(world, ("post", 0))
        self.refuses(NotAtRest(), bills, world)
        do(world, cold())
        rest(world)
        self.answers((3, 2), bills, world)

    def test_behind_a_turn_and_a_join(self):
        world = self.at_rest(Table([1, 1], example().rows, 4))
        do(world, cold(("row", 0, (0, 0))), ("join", (0, 1)))
        rest(world)
        self.answers((1, 1), bills, world)
        self.assertEqual([line[1:] for line in ledger(world)], [(-1, 0, 0, 0), (0, 3, 1, 2), (1, 2, 1, 1), (-1, 0, 0, 0)])
