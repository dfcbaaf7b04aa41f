from heldbest.desklogs import era_record, take_record
from heldbest.errors import OutOfRange
from heldbest.judging import judge
from heldbest.moments import at_rest, given_up, held_now, lot_now, prices_now, slip_now, slips_now, taken_now
from heldbest.tables import Table
from heldbest.worlds import World
from tests.helping import HUGE, Case, example

WIDE = Table([2, 1], [[4, 1], [3, 2], [2, 2]], 3)


def moment(world):
    told = (slips_now(world), held_now(world), prices_now(world), lot_now(world), given_up(world))
    return (*told, taken_now(world), at_rest(world))


def with_bids(table, *bids):
    """A new world in which desks have taken the bids (desk, seeker, amount), unsynced and untold."""
    world = World(table)
    for desk, seeker, amount in bids:
        world.desk_homes[desk].house.take(seeker, amount)
        world.desk_homes[desk].disk.add(0, take_record(seeker, amount))
    return world


class NewWorldTest(Case):
    def test_new_worlds(self):
        cold = ((0, 0, 0, 0, ()), (1, 0, 0, 0, ()))
        self.answers((cold, (-1, -1, -1), (0, 0), (), (), 0, False), moment, World(example()))
        self.answers((cold, (), (0, 0), (), (), 0, True), moment, World(Table([2, 3], [], 1)))
        self.answers((0, 0, 0, 0, ()), slip_now, world=World(example()), desk=0)

    def test_desks_that_are_not_there(self):
        for wrong in (-1, 2, HUGE, -HUGE):
            self.refuses(OutOfRange("desk", wrong), slip_now, World(example()), wrong)


class SlipTest(Case):
    def test_a_desk_that_is_up(self):
        world = with_bids(WIDE, (0, 2, 5), (1, 0, 7))
        self.answers((0, 0, 1, 0, ((2, 5),)), slip_now, world, 0)
        self.answers((1, 0, 1, 7, ((0, 7),)), slip_now, world, 1)
        world = with_bids(WIDE, (0, 2, 5), (0, 0, 3), (0, 1, 4))
        self.answers((0, 0, 3, 4, ((1, 4), (2, 5))), slip_now, world, 0)
        world.desk_homes[0].disk.sync()
        self.answers((0, 0, 3, 4, ((1, 4), (2, 5))), slip_now, world, 0)

    def test_a_desk_that_is_down(self):
        world = with_bids(WIDE, (0, 2, 5), (0, 0, 3))
        world.desk_homes[0].disk.sync()
        world.desk_homes[0].house.take(1, 4)
        world.desk_homes[0].disk.add(0, take_record(1, 4))
        self.answers((0, 0, 3, 4, ((1, 4), (2, 5))), slip_now, world, 0)
        world.desk_homes[0].house = None
        world.desk_homes[0].disk.cut(5)
        self.answers((0, 0, 2, 3, ((0, 3), (2, 5))), slip_now, world, 0)

    def test_an_older_era(self):
        start = (((1, 9),), ())
        for down in (False, True):
            world = with_bids(WIDE, (0, 2, 5), (1, 0, 7))
            world.gazette.turn(Table([1, 1], WIDE.rows, 3), start)
            if down:
                world.desk_homes[0].disk.sync()
                world.desk_homes[0].house = None
            self.answers(((0, 1, 0, 9, ((1, 9),)), (1, 1, 0, 0, ())), slips_now, world)
            world.gazette.turn(WIDE, start)
            self.answers(((0, 2, 0, 0, ((1, 9),)), (1, 2, 0, 0, ())), slips_now, world=world)

    def test_a_desk_that_came_to_the_newest_era(self):
        start = (((1, 9),), ())
        world = with_bids(WIDE, (0, 2, 5))
        world.gazette.turn(WIDE, start)
        house, disk = world.desk_homes[0].house, world.desk_homes[0].disk
        house.moved(1, 2, start[0])
        disk.add(0, era_record(1, 2, start[0]))
        house.take(0, 4)
        disk.add(0, take_record(0, 4))
        self.answers((0, 1, 1, 4, ((0, 4), (1, 9))), slip_now, world, 0)
        disk.cut(len(disk.pending[2]) - 1)
        world.desk_homes[0].house = None
        self.answers((0, 1, 0, 0, ((1, 9),)), slip_now, world, 0)


class HeldTest(Case):
    def test_what_is_held(self):
        world = with_bids(WIDE, (0, 2, 5), (1, 0, 7))
        slips = ((0, 0, 1, 0, ((2, 5),)), (1, 0, 1, 7, ((0, 7),)))
        self.answers((slips, (1, -1, 0), (0, 7), (0, 2), (), 2, False), moment, world)
        world = with_bids(WIDE, (0, 2, 5), (0, 0, 3), (0, 1, 4))
        slips = ((0, 0, 3, 4, ((1, 4), (2, 5))), (1, 0, 0, 0, ()))
        self.answers((slips, (-1, 0, 0), (4, 0), (1, 2), (), 3, False), moment, world)

    def test_who_has_given_up(self):
        world = with_bids(WIDE, (0, 2, 5))
        for seeker in (0, 1, 2):
            house = world.seeker_homes[seeker].house
            for desk in (0, 1):
                house.hear(desk, 1, 40 - 10 * (seeker == 1), -1)
            house.decide()
        self.assertEqual([world.seeker_homes[seeker].house.state for seeker in (0, 1, 2)], ["out"] * 3)
        self.answers((0, 1), given_up, world)
        self.answers((0, 1, 2), lot_now, world)
        world.seeker_homes[0].house = None
        self.answers((1,), given_up, world=world)
        self.answers((1, 2), lot_now, world=world)
        world.gazette.turn(WIDE, (((0, 1),), ()))
        self.answers((), given_up, world)
        self.answers((0,), lot_now, world)

    def test_idle_and_waiting_seekers_have_not_given_up(self):
        world = World(example())
        world.seeker_homes[1].house.decide()
        self.answers((), given_up, world)
        self.answers((), lot_now, world)

    def test_after_a_turn(self):
        world = with_bids(WIDE, (0, 2, 5), (1, 0, 7))
        start = (((0, 20), (1, 10)), ((2, 10),))
        world.gazette.turn(WIDE, start)
        slips = ((0, 1, 0, 10, start[0]), (1, 1, 0, 10, start[1]))
        self.answers((slips, (0, 0, 1), (10, 10), (0, 1, 2), (), 0, False), moment, world)
        self.answers(None, judge, WIDE, held_now(world), prices_now(world), lot=lot_now(world), measure=10, slack=1)


class AtRestTest(Case):
    def resting(self):
        """A world at rest: seeker 1 holds desk 0 at 7, seeker 0 is out."""
        world = with_bids(Table([1], [[1], [2]], 2), (0, 1, 7))
        world.desk_homes[0].disk.sync()
        world.desk_homes[0].house.served()
        first, second = (home.house for home in world.seeker_homes)
        second.hear(0, 0, 6, -1)
        second.decide()
        for house in (first, second):
            house.hear(0, 1, 7, 7 if house is second else -1)
        first.decide()
        return world

    def test_at_rest(self):
        world = self.resting()
        self.answers(((((0, 0, 1, 7, ((1, 7),)),)), (-1, 0), (7,), (0, 1), (0,), 1, True), moment, world)
        self.answers(True, at_rest, world=world)

    def test_a_house_is_down(self):
        for homes in ("desk_homes", "seeker_homes"):
            for number in range(len(getattr(self.resting(), homes))):
                world = self.resting()
                getattr(world, homes)[number].house = None
                self.answers(False, at_rest, world)

    def test_a_house_is_in_an_older_era(self):
        world = self.resting()
        world.gazette.turn(world.newest_table, (((1, 7),),))
        self.answers(False, at_rest, world)
        house = world.desk_homes[0].house
        house.moved(1, 1, ((1, 7),))
        self.answers(False, at_rest, world)
        table = world.newest_table
        for seeker, home in enumerate(world.seeker_homes):
            self.answers(False, at_rest, world)
            home.house.moved(1, table.rows[seeker], table.scale, (0, 7) if seeker else None)
            home.house.hear(0, 0, 7, 7 if seeker else -1)
            home.house.decide()
        self.answers(True, at_rest, world)

    def test_a_letter_is_under_way(self):
        world = self.resting()
        world.net.send(("bid", 0, 0, 0, 1))
        self.answers(False, at_rest, world)
        world.net.take_out(0)
        self.answers(True, at_rest, world)

    def test_somebody_waits(self):
        world = self.resting()
        world.desk_homes[0].house.wait(0)
        self.answers(False, at_rest, world)

    def test_something_is_pending(self):
        for homes in ("desk_homes", "seeker_homes"):
            world = self.resting()
            disk = getattr(world, homes)[0].disk
            disk.add(1, "x")
            self.answers(False, at_rest, world)
            disk.cut(0)
            self.answers(True, at_rest, world)
            disk.begin(1, "x")
            self.answers(False, at_rest, world)

    def test_a_seeker_is_idle_or_waits(self):
        for bid in (None, (0, 7)):
            world = self.resting()
            world.seeker_homes[1].house.moved(0, (2,), 6, bid)
            self.answers(False, at_rest, world)
            world = self.resting()
            world.seeker_homes[0].house.moved(0, (1,), 6, bid)
            self.answers(False, at_rest, world)

    def test_a_settled_seeker_holds_nothing_or_another_desk(self):
        world = self.resting()
        world.desk_homes[0].house.moved(0, 1, ())
        self.answers(False, at_rest, world)
        world = World(Table([1, 1], [[3, 3]], 1))
        house = world.seeker_homes[0].house
        house.decide()
        house.hear(0, 1, 1, 1)
        self.assertEqual((house.state, house.bid), ("settled", (0, 1)))
        self.answers(False, at_rest, world)
        world.desk_homes[1].house.moved(0, 1, ((0, 1),))
        self.answers(False, at_rest, world)
        world.desk_homes[1].house.moved(0, 1, ())
        world.desk_homes[0].house.moved(0, 1, ((0, 1),))
        self.answers(True, at_rest, world)
