"""Seekers that leave a lot."""

from heldbest.chains import follow
from heldbest.errors import Unfit
from heldbest.gains import accepted_lot, ways_from
from heldbest.lots import lot_without
from heldbest.solving import least_row


def leave(table, lot, held, prices, seeker):
    """A best assignment of the lot without the seeker, and the least row of this lot."""
    members, seated = accepted_lot(table, lot, held, prices, seeker)
    if seeker not in members:
        raise Unfit(("lot", seeker))
    others = lot_without(table, members, seeker)
    left = seated[seeker]
    # Behind the seeker the others may fill its place again.
    steps = ways_from(table, seated, others, -1)[left][1]
    after = follow(table, seated, [(seeker, left, -1), *steps])
    return (after, least_row(table, after, others))
