"""Seekers that come to a lot."""

from heldbest.chains import follow
from heldbest.gains import best_way
from heldbest.lots import lot_with
from heldbest.solving import least_row


def enter(table, lot, held, prices, seeker):
    """A best assignment of the lot with the seeker, and the least row of this lot."""
    steps = best_way(table, lot, held, prices, seeker)[1]
    after = follow(table, held, steps)
    return (after, least_row(table, after, lot_with(table, lot, seeker)))
