"""Served rounds, until a world is at rest."""

from heldbest.errors import TooHeavy
from heldbest.events import act
from heldbest.limits import MOST_BIDS
from heldbest.moments import at_rest, taken_now


def bids_bound(table):
    """A bound of the taken bids at any moment of a world of this table."""
    return sum([
        places * table.scale * max([row[desk] for row in table.rows], default=0)
        for desk, places in enumerate(table.places)
    ])


def rounds_bound(table):
    """A bound of the served rounds that bring a world of this table to rest."""
    return (bids_bound(table) + 1) * (table.desks + 3)


def serve(world):
    """Serve a round; the taken bids afterwards less those before."""
    before = taken_now(world)
    act(world, ("serve",))
    return taken_now(world) - before


def rest(world):
    """Serve rounds until the world is at rest; their number."""
    bound = bids_bound(world.newest_table)
    if bound > MOST_BIDS:
        raise TooHeavy(bound)
    rounds = 0
    while not at_rest(world):
        act(world, ("serve",))
        rounds += 1
    return rounds
