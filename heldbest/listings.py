"""All assignments of a lot."""

from heldbest.errors import TooHeavy
from heldbest.limits import MOST_WORK
from heldbest.lots import seekers_of


def plain_work(table, lot=None):
    """The plain work of the lot."""
    work = 1
    for _ in seekers_of(table, lot):
        work *= table.desks + 1
    return work


def assignments(table, lot=None):
    """All assignments of the lot, in ascending order."""
    yield from listed(table, lot)


def count_assignments(table, lot=None):
    """The number of assignments of the lot."""
    return len(listed(table, lot))


def listed(table, lot):
    """The list of all assignments of the lot, in ascending order."""
    members = seekers_of(table, lot)
    work = plain_work(table, members)
    if work > MOST_WORK:
        raise TooHeavy(work)
    begun = [()]
    for seeker in range(table.seekers):
        desks = table.desks if seeker in members else 0
        begun = [(*held, desk) for held in begun for desk in range(-1, desks) if may_hold(table, held, desk)]
    return begun


def may_hold(table, held, desk):
    """True if the seeker behind those of `held` may hold the desk, or -1."""
    if desk == -1:
        return True
    return table.rows[len(held)][desk] > 0 and held.count(desk) < table.places[desk]
