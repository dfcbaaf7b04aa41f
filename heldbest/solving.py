"""Best assignments of lots."""

from heldbest.chains import follow
from heldbest.errors import NotBest
from heldbest.gains import best_change, ways_from
from heldbest.lots import seekers_of
from heldbest.seats import value


def solve(table, lot=None):
    """A best assignment of the lot, and its least row."""
    members = seekers_of(table, lot)
    held = best_assignment(table, members)
    return (held, least_row(table, held, members))


def best_value(table, lot=None):
    """The value of the best assignments of the lot."""
    return value(table, best_assignment(table, seekers_of(table, lot)))


def best_assignment(table, members):
    """A best assignment of the lot: the seekers come one after the other."""
    held = (-1,) * table.seekers
    for at, seeker in enumerate(members):
        steps = best_change(table, held, members[:at], seeker)[1]
        held = follow(table, held, steps)
    return held


def least_row(table, held, members):
    """The least row of a lot of which `held` is a best assignment.

    It tells what the members would gain by a further place at each desk.
    """
    ways = ways_from(table, held, members, -1)
    return tuple([ways[desk][0] for desk in range(table.desks)])


def look_at_best(table, held):
    """Refuse an assignment that does not fit, or is not best."""
    total = value(table, held)
    greatest = best_value(table)
    if total < greatest:
        raise NotBest(greatest)
