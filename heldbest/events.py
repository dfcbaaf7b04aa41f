"""Events of a world: each one is refused before it changes anything, or done."""

from heldbest.compacting import begin_anew, compact, current_slot, is_torn, look_at_synced, new_head, state_on
from heldbest.desklogs import era_record, take_record
from heldbest.desks import DeskHouse
from heldbest.edits import placed, rowed
from heldbest.entries import own_amount
from heldbest.errors import BadWord, Down, Up
from heldbest.leastrows import least_prices
from heldbest.letters import address
from heldbest.limits import within
from heldbest.mending import mend
from heldbest.moments import held_now
from heldbest.seekerlogs import bid_record
from heldbest.seekers import SeekerHouse
from heldbest.solving import solve
from heldbest.starts import start_of
from heldbest.worlds import home_of, new_seeker_home


def act(world, event):
    """Do the event, and add it to the world's events."""
    word, *items = event
    if word not in ACTIONS:
        raise BadWord(word)
    action = ACTIONS[word]
    action(world, *items)
    world.remember(all_tuples(event))


def all_tuples(thing):
    """A copy in which every list is a tuple."""
    if isinstance(thing, (list, tuple)):
        return tuple([all_tuples(item) for item in thing])
    return thing


def home_up(world, kind, number):
    """The home of a house that must be up."""
    home = home_of(world, kind, number)
    if home.house is None:
        raise Down(kind, number)
    return home


def home_down(world, kind, number):
    """The home of a house that must be down."""
    home = home_of(world, kind, number)
    if home.house is not None:
        raise Up(kind, number)
    return home


def write(home, record):
    """Add the record to the current slot."""
    house = home.house
    home.disk.add(current_slot(house.KIND, home.disk), record)


def move(world, home):
    """Bring the house to the newest era."""
    house = home.house
    if house.KIND == "desk":
        move_desk(world, home)
    else:
        move_seeker(world, house)


def move_desk(world, home):
    """Bring the desk to the newest era, and write that it came there."""
    era = world.newest_era
    desk = home.house.number
    places = world.newest_table.places[desk]
    entries = world.gazette.newest_start[desk]
    home.house.moved(era, places, entries)
    write(home, era_record(era, places, entries))


def move_seeker(world, house):
    """Bring the seeker to the newest era."""
    table = world.newest_table
    house.moved(world.newest_era, table.rows[house.number], table.scale, start_bid(world, house.number))


def start_bid(world, seeker):
    """The desk and the amount of the seeker's entry in the newest start, or None."""
    for desk, entries in enumerate(world.gazette.newest_start):
        amount = own_amount(entries, seeker)
        if amount != -1:
            return (desk, amount)
    return None


def bring(world, at):
    """Bring a letter to its address, where it is lost if the house is down."""
    letter = world.net.take_out(at)
    kind, number = address(letter)
    home = home_of(world, kind, number)
    if home.house is None:
        return
    if letter[1] > home.house.era:
        move(world, home)
    if kind == "desk":
        bring_bid(home, letter)
    else:
        bring_told(home.house, letter)


def bring_bid(home, letter):
    """Bring a bid letter of an era to which the desk has come."""
    _, era, seeker, _, amount = letter
    if era < home.house.era:
        home.house.wait(seeker)
    elif home.house.take(seeker, amount) == "taken":
        write(home, take_record(seeker, amount))


def bring_told(house, letter):
    """Bring a told letter of an era to which the seeker has come."""
    _, era, desk, _, serial, price, own = letter
    if era == house.era:
        house.hear(desk, serial, price, own)


def send_copy(world, at):
    """Send a copy of a letter."""
    world.net.send(world.net.at(at))


def lose(world, at):
    """Take a letter out of the net."""
    world.net.take_out(at)


def nudge(world, seeker):
    """Let a seeker come to the newest era, decide, and send its bid."""
    home = home_up(world, "seeker", seeker)
    record = stir(world, home.house)
    if record != "":
        write(home, record)
        home.disk.sync()
    letter = home.house.letter()
    if letter is not None:
        world.net.send(letter)


def trip(world, seeker, keep):
    """Let a seeker do the same, but fall while it writes."""
    home = home_up(world, "seeker", seeker)
    # What the seeker comes to remember is lost, so it is enough that a copy comes to it.
    record = stir(world, home.house.copied())
    within("keep", keep, 0, len(record))
    if record != "":
        write(home, record)
        home.disk.cut(keep)
    home.house = None


def stir(world, house):
    """Let the seeker come to the newest era and decide; the record of a new bid, or no text."""
    if house.era != world.newest_era:
        move_seeker(world, house)
    was_idle = house.state == "idle"
    bid = house.decide()
    return bid_record(house.era, bid) if was_idle and bid is not None else ""


def sync_desk(world, desk):
    """Sync the disk of a desk, and tell those who wait."""
    home = home_up(world, "desk", desk)
    home.disk.sync()
    for seeker in home.house.served():
        world.net.send(home.house.told(seeker))


def post(world, desk):
    """Put all seekers on the waiting list of a desk."""
    house = home_up(world, "desk", desk).house
    for seeker in range(world.newest_table.seekers):
        house.wait(seeker)


def fall(world, kind, number, keep):
    """Let a house fall."""
    home = home_up(world, kind, number)
    home.disk.cut(keep)
    home.house = None


def rise(world, kind, number):
    """Let a house rise with what its log holds."""
    home = home_down(world, kind, number)
    house = risen_house(world, kind, number, home.disk)
    if is_torn(kind, home.disk):
        compact(kind, house, home.disk)
    home.house = house


def stumble(world, kind, number, keep):
    """Let a house fall while it rises."""
    disk = home_down(world, kind, number).disk
    if is_torn(kind, disk):
        compact_cut(kind, risen_house(world, kind, number, disk), disk, keep)
    else:
        within("keep", keep, 0, 0)


def risen_house(world, kind, number, disk):
    """The house with the state that the current slot of its disk tells."""
    if kind == "desk":
        _, era, places, serial, entries = state_on(kind, disk)
        return DeskHouse(number, era, places, entries, serial=serial)
    _, era, bid = state_on(kind, disk)
    table = world.gazette.table_of(era)
    return SeekerHouse(number, era, table.rows[number], table.scale, bid)


def compact_house(world, kind, number):
    """Compact the disk of a house."""
    home = home_up(world, kind, number)
    compact(kind, home.house, home.disk)


def tear(world, kind, number, keep):
    """Let a house fall while it compacts its disk."""
    home = home_up(world, kind, number)
    look_at_synced(kind, number, home.disk)
    compact_cut(kind, home.house, home.disk, keep)
    home.house = None


def compact_cut(kind, house, disk, keep):
    """Compact a disk on which nothing is pending, with only so many characters of the new head."""
    within("keep", keep, 0, len(new_head(kind, house, disk)))
    begin_anew(kind, house, disk)
    disk.cut(keep)


def join(world, row):
    """Let a further seeker come into the newest era."""
    world.gazette.admit(row)
    table = world.newest_table
    world.seeker_homes.append(new_seeker_home(table, table.seekers - 1, world.newest_era))


def turn(world, change, how, start):
    """Open a new era."""
    world.gazette.look_at_room()
    table = table_behind(world.newest_table, change)
    world.gazette.turn(table, new_start(world, table, how, start))


def table_behind(table, change):
    """The table behind the change."""
    word, *items = change
    if word == "same":
        return table
    if word not in ("row", "places"):
        raise BadWord(word)
    number, new = items
    return rowed(table, number, new) if word == "row" else placed(table, number, new)


def new_start(world, table, how, start):
    """The start of a new era with this table; a given one is not looked at."""
    if how == "given":
        return start
    if how == "cold":
        return ((),) * table.desks
    if how == "best":
        held, prices = solve(table)
        return start_of(table, held, prices)
    if how == "mend":
        mended = mend(world.newest_table, held_now(world), table)[0]
        return start_of(table, mended, least_prices(table))
    raise BadWord(how)


def serve_round(world):
    """Bring every house up and to the newest era, and every seeker's bid to its desk and back."""
    desks = range(len(world.desk_homes))
    seekers = range(len(world.seeker_homes))
    for desk in desks:
        make_ready(world, "desk", desk)
    for seeker in seekers:
        make_ready(world, "seeker", seeker)
    for seeker in seekers:
        nudge(world, seeker)
    bring_all(world)
    for desk in desks:
        sync_desk(world, desk)
    bring_all(world)


def make_ready(world, kind, number):
    """Let a house rise if it is down, and come to the newest era."""
    home = home_of(world, kind, number)
    if home.house is None:
        rise(world, kind, number)
    if home.house.era != world.newest_era:
        move(world, home)


def bring_all(world):
    """Bring as many letters as the net has, each time the first one."""
    for _ in range(len(world.net.letters)):
        bring(world, 0)


ACTIONS = {
    "bring": bring,
    "copy": send_copy,
    "lose": lose,
    "nudge": nudge,
    "trip": trip,
    "sync": sync_desk,
    "post": post,
    "fall": fall,
    "rise": rise,
    "stumble": stumble,
    "compact": compact_house,
    "tear": tear,
    "join": join,
    "turn": turn,
    "serve": serve_round,
}
