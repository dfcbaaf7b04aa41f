"""Lots of seekers."""

from heldbest.limits import within
from heldbest.parameters import look_at_seeker


def seekers_of(table, lot=None):
    """The seekers of the lot, where None stands for all seekers."""
    if lot is None:
        return tuple(range(table.seekers))
    least = 0
    for seeker in lot:
        within("seeker", seeker, least, table.seekers - 1)
        least = seeker + 1
    return tuple(lot)


def lot_with(table, lot, seeker):
    """The lot with this seeker."""
    members = seekers_of(table, lot)
    look_at_seeker(table, seeker)
    if seeker in members:
        return members
    return tuple(sorted([*members, seeker]))


def lot_without(table, lot, seeker):
    """The lot without this seeker."""
    members = seekers_of(table, lot)
    look_at_seeker(table, seeker)
    return tuple([member for member in members if member != seeker])
