"""How a seeker chooses a desk to bid for."""

from heldbest.limits import MOST_DESKS, MOST_PRICE, within
from heldbest.parameters import numbers_of, row_of

MOST_SCALE = 100


def left_at(row, scale, known):
    """What is left at each desk: the weight there less the known price."""
    worths = row_of_some(row)
    look_at_scale(scale)
    prices = numbers_of("known", known, len(worths), "price", MOST_PRICE)
    return tuple([scale * worth - price for worth, price in zip(worths, prices)])


def choose(row, scale, known):
    """The first desk where most is left, and the amount of the bid; None if nowhere at least 1 is left."""
    left = left_at(row, scale, known)
    most = max(left)
    if most < 1:
        return None
    desk = left.index(most)
    return (desk, known[desk] + 1)


def row_of_some(row):
    """A copy of a row that may have any number of desks."""
    within("row", len(row), 1, MOST_DESKS)
    return row_of(row, len(row))


def look_at_scale(scale):
    within("scale", scale, 1, MOST_SCALE)
