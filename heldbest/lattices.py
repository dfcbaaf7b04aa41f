"""The accepted rows of a lot."""

from heldbest.errors import TooHeavy
from heldbest.greatestrows import greatest_prices
from heldbest.judging import judge
from heldbest.leastrows import least_prices
from heldbest.limits import MOST_WORK
from heldbest.lots import seekers_of
from heldbest.parameters import prices_of
from heldbest.solving import best_assignment


def is_accepted(table, prices, lot=None):
    """True if the price row is an accepted row of the lot."""
    row = prices_of(table, prices)
    members = seekers_of(table, lot)
    return accepts(table, best_assignment(table, members), row, members)


def price_ranges(table, lot=None):
    """For each desk its least and its greatest price."""
    members = seekers_of(table, lot)
    return tuple(zip(least_prices(table, members), greatest_prices(table, members)))


def accepted_rows(table, lot=None):
    """All accepted rows of the lot, in ascending order."""
    yield from listed_rows(table, lot)


def accepts(table, held, prices, members):
    """True if the price row accepts the assignment of the lot."""
    return judge(table, held, prices, lot=members) is None


def listed_rows(table, lot):
    """The list of all accepted rows of the lot, in ascending order."""
    members = seekers_of(table, lot)
    ranges = price_ranges(table, members)
    look_at_product(ranges)
    rows = [()]
    for least, greatest in ranges:
        rows = [(*row, price) for row in rows for price in range(least, greatest + 1)]
    # A row that accepts one best assignment accepts every one.
    held = best_assignment(table, members)
    return [row for row in rows if accepts(table, held, row, members)]


def look_at_product(ranges):
    """Refuse ranges that hold too many rows."""
    work = 1
    for least, greatest in ranges:
        work *= greatest - least + 1
    if work > MOST_WORK:
        raise TooHeavy(work)
