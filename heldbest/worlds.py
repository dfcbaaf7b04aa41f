"""Worlds of a gazette, the homes of the houses, and a net."""

from heldbest.compacting import look_at_kind
from heldbest.desklogs import desk_head
from heldbest.desks import DeskHouse
from heldbest.disks import Disk
from heldbest.gazette import Gazette
from heldbest.nets import Net
from heldbest.parameters import look_at_desk, look_at_seeker
from heldbest.seekerlogs import seeker_head
from heldbest.seekers import SeekerHouse


class Home:
    """A disk, and the house while it is up."""

    def __init__(self, house, disk):
        self.house = house
        self.disk = disk

    def copied(self):
        """A new home in the same state."""
        return Home(None if self.house is None else self.house.copied(), self.disk.copied())


class World:
    """A whole run, with all that there is at this moment."""

    def __init__(self, table):
        self.gazette = Gazette(table)
        self.desk_homes = [new_desk_home(table, desk) for desk in range(table.desks)]
        self.seeker_homes = [new_seeker_home(table, seeker, 0) for seeker in range(table.seekers)]
        self.net = Net()
        self._events = []

    @property
    def newest_table(self):
        """The table of the newest era."""
        return self.gazette.newest_table

    @property
    def newest_era(self):
        """The number of the newest era."""
        return self.gazette.newest

    @property
    def events(self):
        """The events that were done."""
        return tuple(self._events)

    def remember(self, event):
        """Add an event that was done."""
        self._events.append(event)

    def copied(self):
        """A new world in the same state."""
        world = World(self.newest_table)
        world.gazette = self.gazette.copied()
        world.desk_homes = [home.copied() for home in self.desk_homes]
        world.seeker_homes = [home.copied() for home in self.seeker_homes]
        world.net = self.net.copied()
        world._events = list(self._events)
        return world


def desk_view(world, desk):
    """The era, places, serial, entries and waiting list of the desk; None if it is down."""
    house = home_of(world, "desk", desk).house
    if house is None:
        return None
    return (house.era, house.places, house.serial, house.entries, house.waits)


def seeker_view(world, seeker):
    """The era, state, bid and knowledge of the seeker; None if it is down."""
    house = home_of(world, "seeker", seeker).house
    if house is None:
        return None
    return (house.era, house.state, house.bid, house.known)


def disk_view(world, kind, number):
    """The synced texts of both slots of a house's disk, and what is pending."""
    disk = home_of(world, kind, number).disk
    return (disk.synced(0), disk.synced(1), disk.pending)


def home_of(world, kind, number):
    """The home of this house of the newest table."""
    look_at_kind(kind)
    if kind == "desk":
        look_at_desk(world.newest_table, number)
        return world.desk_homes[number]
    look_at_seeker(world.newest_table, number)
    return world.seeker_homes[number]


def new_desk_home(table, desk):
    """The home of a new desk in era 0."""
    places = table.places[desk]
    return Home(DeskHouse(desk, 0, places), new_disk(desk_head(0, 0, places, 0, ())))


def new_seeker_home(table, seeker, era):
    """The home of a new seeker in this era, whose table it is."""
    house = SeekerHouse(seeker, era, table.rows[seeker], table.scale)
    return Home(house, new_disk(seeker_head(0, era, None)))


def new_disk(head):
    """A disk with this head in slot 0."""
    disk = Disk()
    disk.begin(0, head)
    disk.sync()
    return disk
