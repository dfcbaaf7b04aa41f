"""Gains, profits and the ceiling."""

from heldbest.lots import seekers_of
from heldbest.parameters import look_at_desk_or_none, look_at_measure, look_at_seeker, prices_of


def gain(table, seeker, desk, prices, *, measure=1):
    """The gain of the seeker at the desk, or at -1."""
    look_at_seeker(table, seeker)
    look_at_desk_or_none(table, desk)
    row = prices_of(table, prices)
    look_at_measure(measure)
    return gain_at(table, seeker, desk, row, measure)


def profit(table, seeker, prices, *, measure=1):
    """The greatest gain of the seeker, at least 0."""
    look_at_seeker(table, seeker)
    row = prices_of(table, prices)
    look_at_measure(measure)
    return greatest_gain(table, seeker, row, measure)


def profits(table, prices, *, measure=1):
    """The profits of all seekers."""
    row = prices_of(table, prices)
    look_at_measure(measure)
    return tuple([greatest_gain(table, seeker, row, measure) for seeker in range(table.seekers)])


def ceiling(table, prices, *, lot=None, measure=1):
    """A bound of the value of each assignment of the lot."""
    row = prices_of(table, prices)
    members = seekers_of(table, lot)
    look_at_measure(measure)
    of_seekers = sum([greatest_gain(table, seeker, row, measure) for seeker in members])
    of_desks = sum([places * price for places, price in zip(table.places, row)])
    return (of_seekers + of_desks) // measure


def gain_at(table, seeker, desk, prices, measure):
    """The gain of what was looked at already."""
    if desk == -1:
        return 0
    return measure * table.rows[seeker][desk] - prices[desk]


def gains_at(table, seeker, prices, measure):
    """The gains at all desks of what was looked at already."""
    return [gain_at(table, seeker, desk, prices, measure) for desk in range(table.desks)]


def greatest_gain(table, seeker, prices, measure):
    """The profit of what was looked at already."""
    return max(0, max(gains_at(table, seeker, prices, measure)))
