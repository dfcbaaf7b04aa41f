from heldbest.errors import TooHeavy
from heldbest.events import act
from heldbest.moments import at_rest, held_now, slips_now, taken_now
from heldbest.serving import bids_bound, rest, rounds_bound, serve
from heldbest.tables import Table
from heldbest.worlds import World, desk_view, disk_view, seeker_view
from heldbest.worldtexts import world_text
from tests.helping import example
from tests.test_events import Events, cold, do, done, given


class BoundTest(Events):
    def test_bids_bound(self):
        self.answers(10 * 4 + 10 * 2, bids_bound, example())
        self.answers(10 * 2 * 4 + 10 * 9 * 2, bids_bound, table=Table([2, 9], example().rows, 3))
        self.answers(0, bids_bound, Table([1, 2], [], 30))
        self.answers(0, bids_bound, Table([1, 2], [[0, 0], [0, 0]], 30))
        self.answers(11 * 5, bids_bound, Table([1, 2], [[5, 0], [4, 0]], 4))
        self.answers(6 * 9 * 99 * 49, bids_bound, Table([9] * 6, [[99] * 6], 30))

    def test_rounds_bound(self):
        self.answers(61 * 5, rounds_bound, example())
        self.answers(4, rounds_bound, table=Table([2], [], 1))
        self.answers((6 * 9 * 99 * 49 + 1) * 9, rounds_bound, Table([9] * 6, [[99] * 6], 30))


class ServeTest(Events):
    def test_a_round(self):
        world = done()
        self.assertEqual(serve(world), 1)
        self.assertEqual(world.events, (("serve",),))
        self.assertEqual(desk_view(world, 0), (0, 1, 1, ((0, 1),), ()))
        self.assertEqual([seeker_view(world, seeker)[1] for seeker in range(3)], ["settled", "idle", "idle"])
        self.assertEqual((world.net.letters, disk_view(world, "desk", 0)[2]), ((), None))
        self.assertEqual(serve(world=world), 2)
        self.assertEqual(taken_now(world), 3)

    def test_the_order_of_a_round(self):
        world = done(("nudge", 2), ("nudge", 1))
        do(world, ("serve",))
        self.assertEqual(desk_view(world, 0)[3], ((2, 1),))
        world = done(("nudge", 2), ("lose", 0), ("fall", "seeker", 2, 0))
        do(world, ("serve",))
        self.assertEqual(desk_view(world, 0)[3], ((0, 1),))
        self.assertEqual([seeker_view(world, seeker)[1] for seeker in range(3)], ["settled", "idle", "idle"])

    def test_houses_that_are_down_and_in_older_eras(self):
        world = done(("nudge", 0), ("bring", 0), ("fall", "desk", 0, 3), ("fall", "seeker", 0, 0), cold(("places", 1, 2)))
        do(world, ("fall", "seeker", 2, 0), ("fall", "desk", 1, 0), ("nudge", 1), ("lose", 0))
        self.assertEqual(serve(world), 1)
        self.assertEqual([desk_view(world, desk) for desk in (0, 1)], [(1, 1, 1, ((0, 1),), ()), (1, 2, 0, (), ())])
        self.assertEqual([seeker_view(world, seeker)[:2] for seeker in range(3)], [(1, "settled"), (1, "idle"), (1, "idle")])
        self.assertEqual(len(disk_view(world, "desk", 0)[1].split("\n")), 4)
        self.assertEqual(disk_view(world, "desk", 1)[1:], ("", None))

    def test_a_house_rises_then_moves(self):
        world = done(given(((0, 30),), ((1, 20),)), ("fall", "seeker", 0, 0), ("fall", "desk", 1, 0))
        self.assertEqual(serve(world), 0)
        self.assertEqual(seeker_view(world, 0), (1, "settled", (0, 30), ((0, 30), (0, 0))))
        self.assertEqual(desk_view(world, 1), (1, 1, 0, ((1, 20),), ()))

    def test_letters_that_are_under_way(self):
        world = done(("nudge", 1), *[("copy", 0)] * 20, ("post", 1), ("sync", 1))
        do(world, ("serve",))
        self.assertEqual((world.net.letters, desk_view(world, 0)[3]), ((), ((1, 1),)))
        self.assertEqual(len(world.events), 24)

    def test_a_full_net(self):
        world = done(("nudge", 1), *[("copy", 0)] * 199, ("serve",))
        self.assertEqual(world.net.letters, ())
        self.assertEqual([seeker_view(world, seeker)[1] for seeker in range(3)], ["waiting", "settled", "waiting"])

    def test_what_is_taken_may_fall(self):
        world = done(("nudge", 0), ("bring", 0))
        self.assertEqual(serve(world), 0)
        self.assertEqual(taken_now(world), 1)


class RestTest(Events):
    def test_the_example(self):
        world = World(Table([1], [[1], [2]], 2))
        self.assertEqual(rest(world), 7)
        self.assertEqual((held_now(world), world.events), ((-1, 0), (("serve",),) * 7))
        self.assertEqual(slips_now(world), ((0, 0, 6, 6, ((1, 6),)),))

    def test_at_rest_already(self):
        world = World(Table([1], [[1], [2]], 2))
        rest(world)
        before = world_text(world)
        self.answers(0, rest, world=world)
        self.assertEqual((world_text(world), len(world.events)), (before, 7))
        world = World(Table([3, 2], [], 2))
        self.answers(0, rest, world)
        self.assertEqual(world.events, ())

    def test_serving_at_rest(self):
        world = World(Table([1], [[1], [2]], 2))
        rest(world)
        slips = slips_now(world)
        self.assertEqual(serve(world), 0)
        self.assertTrue(at_rest(world))
        self.assertEqual((slips_now(world), len(world.events)), (slips, 8))

    def test_1000(self):
        for table in (Table([5], [[40]], 1), Table([1, 1], [[99, 1], [1, 1]], 3)):
            self.assertEqual(bids_bound(table), 1000)
            world = World(table)
            self.assertGreater(rest(world), 0)
            self.assertTrue(at_rest(world))

    def stays_heavy(self, bound, world):
        before = (world_text(world), world.events)
        self.refuses(TooHeavy(bound), rest, world)
        self.assertEqual((world_text(world), world.events), before)

    def test_1001(self):
        table = Table([1, 1], [[90, 0], [0, 1]], 4)
        self.assertEqual(bids_bound(table), 1001)
        world = World(table)
        self.stays_heavy(1001, world)
        self.assertEqual([serve(world) for _ in range(3)], [2, 0, 0])
        self.assertTrue(at_rest(world))
        self.stays_heavy(1001, world)

    def test_the_newest_table_counts(self):
        world = World(Table([1], [[1], [2]], 2))
        rest(world)
        act(world, cold(("row", 0, (99,))))
        self.answers(594, bids_bound, world.newest_table)
        self.assertEqual(rest(world), 14)
        act(world, cold(("places", 0, 2)))
        self.stays_heavy(1188, world)
        act(world, cold(("row", 0, (1,))))
        self.assertGreater(rest(world), 0)
        self.assertEqual(held_now(world), (0, 0))
