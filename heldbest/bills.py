"""Bills and the ledger of a world at rest in a cold era."""

from heldbest.errors import NotAtRest, Warm
from heldbest.limits import MOST_PRICE, within
from heldbest.moments import at_rest, held_now, prices_now


def bill(table, price):
    """The bill of a price."""
    within("price", price, 0, MOST_PRICE)
    return (price + table.desks) // table.scale


def bills(world):
    """The bill of each desk."""
    look_at_cold_rest(world)
    table = world.newest_table
    return tuple([bill(table, price) for price in prices_now(world)])


def ledger(world):
    """For each seeker its number, its desk or -1, its worth there, the desk's bill, and what it gains."""
    # Behind the last bill stands that of desk -1.
    charges = (*bills(world), 0)
    table = world.newest_table
    held = held_now(world)
    lines = [(seeker, desk, table.worth(seeker, desk), charges[desk]) for seeker, desk in enumerate(held)]
    return tuple([(*line, line[2] - line[3]) for line in lines])


def look_at_cold_rest(world):
    """Refuse a world that is not at rest, or whose newest era is not cold."""
    if not at_rest(world):
        raise NotAtRest()
    if not world.gazette.cold:
        raise Warm(world.newest_era)
