"""Groups of seekers and seats, and what would be better for them than their shares."""

from heldbest.limits import MOST_PRICE, within
from heldbest.lots import seekers_of
from heldbest.parameters import numbers_of, prices_of
from heldbest.solving import best_value
from heldbest.tables import Table


def group_value(table, lot, seats):
    """The best value of the lot if each desk has only these seats."""
    members = seekers_of(table, lot)
    counts = seats_of(table, seats)
    return best_value(seats_table(table, counts), members)


def betters(table, profits, prices, lot, seats):
    """True if the group's value is greater than its shares."""
    shares = profits_of(table, profits)
    row = prices_of(table, prices)
    members = seekers_of(table, lot)
    counts = seats_of(table, seats)
    of_seekers = sum([shares[seeker] for seeker in members])
    of_seats = sum([count * price for count, price in zip(counts, row)])
    return group_value(table, members, counts) > of_seekers + of_seats


def pair_fault(table, profits, prices):
    """The first seeker, with the first desk for it, that are worth more together than their shares, or None."""
    shares = profits_of(table, profits)
    row = prices_of(table, prices)
    for seeker, share in enumerate(shares):
        for desk, price in enumerate(row):
            if table.worth(seeker, desk) > share + price:
                return ("pair", seeker, desk)
    return None


def seats_of(table, seats):
    """A copy of the seats, at each desk at most its places."""
    within("seats", len(seats), table.desks, table.desks)
    for count, places in zip(seats, table.places):
        within("seat", count, 0, places)
    return tuple(seats)


def profits_of(table, profits):
    """A copy of the profits."""
    return numbers_of("profits", profits, table.seekers, "profit", MOST_PRICE)


def seats_table(table, seats):
    """The table with these seats as places."""
    # A table has no desk without a place, so nobody may want a desk without a seat.
    rows = [[worth if seats[desk] > 0 else 0 for desk, worth in enumerate(row)] for row in table.rows]
    return Table([max(1, count) for count in seats], rows, table.most)
