"""What a world holds at this moment."""

from heldbest.compacting import state_on
from heldbest.entries import least_amount
from heldbest.parameters import look_at_desk


def slip_now(world, desk):
    """The slip of the desk: its number, era, serial, price and entries."""
    look_at_desk(world.newest_table, desk)
    era = world.newest_era
    places, serial, entries = official_state(world, desk)
    return (desk, era, serial, least_amount(entries, places), entries)


def slips_now(world):
    """The slips of all desks."""
    return tuple([slip_now(world, desk) for desk in range(world.newest_table.desks)])


def held_now(world):
    """The assignment that is held."""
    held = [-1] * world.newest_table.seekers
    for desk, _, _, _, entries in slips_now(world):
        for seeker, _ in entries:
            held[seeker] = desk
    return tuple(held)


def prices_now(world):
    """The prices of the desks."""
    return tuple([price for _, _, _, price, _ in slips_now(world)])


def lot_now(world):
    """The seekers that hold a desk, and those that have given up."""
    held = held_now(world)
    return tuple([
        seeker for seeker, home in enumerate(world.seeker_homes)
        if held[seeker] != -1 or is_out(world, home.house)
    ])


def given_up(world):
    """The seekers of the lot that hold nothing."""
    held = held_now(world)
    return tuple([seeker for seeker in lot_now(world) if held[seeker] == -1])


def taken_now(world):
    """The number of the taken bids."""
    return sum([serial for _, _, serial, _, _ in slips_now(world)])


def at_rest(world):
    """True if nothing is under way, and each seeker has what it can have."""
    homes = world.desk_homes + world.seeker_homes
    if not all([is_quiet(world, home) for home in homes]):
        return False
    if len(world.net.letters) > 0 or any([len(home.house.waits) > 0 for home in world.desk_homes]):
        return False
    held = held_now(world)
    return all([has_come_to_rest(home.house, held[at]) for at, home in enumerate(world.seeker_homes)])


def official_state(world, desk):
    """The places, the serial and the entries of the desk in the newest era."""
    home = world.desk_homes[desk]
    if home.house is None:
        _, era, places, serial, entries = state_on("desk", home.disk)
    else:
        house = home.house
        era, places, serial, entries = (house.era, house.places, house.serial, house.entries)
    if era == world.newest_era:
        return (places, serial, entries)
    return (world.newest_table.places[desk], 0, world.gazette.newest_start[desk])


def is_out(world, house):
    """True if the seeker is up, in the newest era and out."""
    return house is not None and house.era == world.newest_era and house.state == "out"


def is_quiet(world, home):
    """True if the house is up and in the newest era, and nothing is pending on its disk."""
    house = home.house
    return house is not None and house.era == world.newest_era and home.disk.pending is None


def has_come_to_rest(house, desk):
    """True if the seeker is out, or settled with a bid for the desk that it holds."""
    return house.state == "out" or (house.state == "settled" and house.bid[0] == desk)
