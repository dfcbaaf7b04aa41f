from heldbest.desks import DeskHouse
from heldbest.disks import Disk
from heldbest.errors import BadWord, OutOfRange
from heldbest.gazette import Gazette
from heldbest.nets import Net
from heldbest.records import write_record
from heldbest.seekers import SeekerHouse
from heldbest.tables import Table
from heldbest.worlds import Home, World, desk_view, disk_view, seeker_view
from tests.helping import HUGE, Case, example

SEEKER_HEAD = "head 0 0 -1 0 4338\n"
GREAT = Table([1, 2, 3, 4, 5, 9], [[seeker, 99, 0, 1, 2, 3] for seeker in range(30)], 30)


class HomeTest(Case):
    def test_the_very_objects(self):
        house, disk = DeskHouse(0, 0, 1), Disk()
        home = Home(house, disk)
        self.assertIs(home.house, house)
        self.assertIs(home.disk, disk)
        self.assertIsNone(Home(house=None, disk=disk).house)


class NewWorldTest(Case):
    def looks_new(self, table):
        world = World(table)
        self.answers(table, lambda: world.newest_table)
        self.answers((0, (), ()), lambda: (world.newest_era, world.events, world.net.letters))
        self.assertIsInstance(world.gazette, Gazette)
        self.assertIsInstance(world.net, Net)
        self.answers(((),) * table.desks, world.gazette.start_of_era, 0)
        self.assertEqual((len(world.desk_homes), len(world.seeker_homes)), (table.desks, table.seekers))
        for desk, places in enumerate(table.places):
            self.answers((0, places, 0, (), ()), desk_view, world, desk)
            head = write_record(["head", "0", "0", str(places), "0"])
            self.answers((head, "", None), disk_view, world, "desk", desk)
            home = world.desk_homes[desk]
            self.assertTrue(isinstance(home, Home) and isinstance(home.house, DeskHouse) and isinstance(home.disk, Disk))
            self.assertEqual(home.house.number, desk)
        for seeker, row in enumerate(table.rows):
            self.answers((0, "idle", None, ((0, 0),) * table.desks), seeker_view, world, seeker)
            self.answers((SEEKER_HEAD, "", None), disk_view, world, "seeker", seeker)
            home = world.seeker_homes[seeker]
            self.assertTrue(isinstance(home, Home) and isinstance(home.house, SeekerHouse))
            self.assertEqual((home.house.number, home.house.row, home.house.scale), (seeker, row, table.scale))

    def test_new_worlds(self):
        self.looks_new(Table([1], [[1]], 1))
        self.looks_new(example())
        self.looks_new(Table([2, 9], [[0, 5]], 30))

    def test_the_greatest_table(self):
        self.looks_new(GREAT)

    def test_a_table_without_seekers(self):
        self.looks_new(Table([3, 1], [], 2))

    def test_worlds_have_nothing_in_common(self):
        table = example()
        one, two = World(table), World(table=table)
        one.desk_homes[0].house.take(1, 5)
        one.net.send(("bid", 0, 0, 0, 1))
        one.seeker_homes[0].house = None
        self.assertEqual(desk_view(two, 0), (0, 1, 0, (), ()))
        self.assertEqual(two.net.letters, ())
        self.assertIsNotNone(seeker_view(two, 0))


class ViewTest(Case):
    def test_desks(self):
        world = World(example())
        world.desk_homes[1].house.take(2, 5)
        world.desk_homes[1].house.wait(0)
        self.answers((0, 1, 1, ((2, 5),), (2, 0)), desk_view, world=world, desk=1)
        world.desk_homes[1].house = None
        self.answers(None, desk_view, world, 1)
        self.answers((0, 1, 0, (), ()), desk_view, world, 0)

    def test_seekers(self):
        world = World(example())
        house = world.seeker_homes[1].house
        house.decide()
        self.answers((0, "waiting", (0, 1), ((0, 0), (0, 0))), seeker_view, world=world, seeker=1)
        house.hear(0, 3, 4, -1)
        self.answers((0, "idle", None, ((3, 4), (0, 0))), seeker_view, world, 1)
        world.seeker_homes[1].house = None
        self.answers(None, seeker_view, world, 1)

    def test_disks(self):
        world = World(example())
        world.desk_homes[1].disk.add(0, "abc")
        head = write_record("head 0 0 1 0".split())
        self.answers((head, "", (0, False, "abc")), disk_view, world, "desk", 1)
        world.desk_homes[1].disk.sync()
        self.answers((head + "abc", "", None), disk_view, world=world, kind="desk", number=1)
        world.seeker_homes[2].house = None
        world.seeker_homes[2].disk.begin(1, "x")
        self.answers((SEEKER_HEAD, "", (1, True, "x")), disk_view, world, "seeker", 2)

    def test_what_is_refused(self):
        world = World(example())
        for wrong in (-1, 2, HUGE, -HUGE):
            self.refuses(OutOfRange("desk", wrong), desk_view, world, wrong)
            self.refuses(OutOfRange("desk", wrong), disk_view, world, "desk", wrong)
        for wrong in (-1, 3, HUGE, -HUGE):
            self.refuses(OutOfRange("seeker", wrong), seeker_view, world, wrong)
            self.refuses(OutOfRange("seeker", wrong), disk_view, world, "seeker", wrong)
        for wrong in ("", "Desk", "house", "seekers"):
            self.refuses(BadWord(wrong), disk_view, world, wrong, 0)
            self.refuses(BadWord(wrong), disk_view, world, wrong, -1)

    def test_numbers_are_those_of_the_newest_table(self):
        world = World(Table([1, 1], [], 1))
        self.refuses(OutOfRange("seeker", 0), seeker_view, world, 0)
        self.refuses(OutOfRange("seeker", 0), disk_view, world, "seeker", 0)
