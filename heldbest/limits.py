"""The greatest values, and the look at a number's bounds."""

from heldbest.errors import OutOfRange

MOST_DESKS = 6
MOST_SEEKERS = 30
MOST_PLACES = 9
MOST_WORTH = 99
MOST_PRICE = 9999
MOST_MEASURE = 100
MOST_SLACK = 100
MOST_ERA = 999
MOST_SERIAL = 99999
MOST_LETTERS = 200
MOST_WORK = 4096
MOST_BIDS = 1000
MOST_TEXT = 20000
MOST_GENERATION = 99999


def within(what, value, least, most):
    """Refuse a value that is not from `least` to `most`."""
    if value < least or value > most:
        raise OutOfRange(what, value)
