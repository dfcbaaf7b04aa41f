"""The judge of assignments and price rows."""

from heldbest.duals import gain_at, gains_at
from heldbest.errors import NotAccepted
from heldbest.lots import seekers_of
from heldbest.parameters import (
    held_of, look_at_desk_or_none, look_at_measure, look_at_seeker, look_at_slack, prices_of,
)
from heldbest.seats import loads, seat_fault


def envy(table, seeker, desk, prices, *, measure=1, slack=0):
    """None if the seeker is content with the desk, otherwise what it would rather hold."""
    look_at_seeker(table, seeker)
    look_at_desk_or_none(table, desk)
    row = prices_of(table, prices)
    look_at_measure(measure)
    look_at_slack(slack)
    enough = gain_at(table, seeker, desk, row, measure)
    if desk != -1:
        enough += slack
    if enough < 0:
        return -1
    for other, left in enumerate(gains_at(table, seeker, row, measure)):
        if left > enough:
            return other
    return None


def judge(table, held, prices, *, lot=None, measure=1, slack=0):
    """The first fault of the assignment of the lot and the price row, or None."""
    seated = held_of(table, held)
    row = prices_of(table, prices)
    members = seekers_of(table, lot)
    look_at_measure(measure)
    look_at_slack(slack)
    fault = stranger_fault(seated, members) or seat_fault(table, seated) or free_fault(table, seated, row)
    if fault is not None:
        return fault
    for seeker in members:
        rather = envy(table, seeker, seated[seeker], row, measure=measure, slack=slack)
        if rather is not None:
            return ("envy", seeker, rather)
    return None


def look_at_accepted(table, held, prices, lot=None):
    """Refuse an assignment of the lot that the price row does not accept."""
    fault = judge(table, held, prices, lot=lot)
    if fault is not None:
        raise NotAccepted(fault)


def stranger_fault(held, members):
    """The fault of a holder that is not in the lot, or None."""
    for seeker, desk in enumerate(held):
        if desk != -1 and seeker not in members:
            return ("stranger", seeker)
    return None


def free_fault(table, held, prices):
    """The fault of a free desk with a price, or None."""
    for desk, load in enumerate(loads(table, held)):
        if load < table.places[desk] and prices[desk] > 0:
            return ("free", desk)
    return None
