"""Letters of seekers and desks."""

from heldbest.errors import Unread
from heldbest.limits import MOST_DESKS, MOST_ERA, MOST_PRICE, MOST_SEEKERS, MOST_SERIAL, within
from heldbest.parameters import look_at_text
from heldbest.words import is_number

ITEMS = {
    "bid": ("era", "seeker", "desk", "amount"),
    "told": ("era", "desk", "seeker", "serial", "price", "own"),
}


def bid_letter(era, seeker, desk, amount):
    """The letter in which the seeker bids the amount."""
    return letter_of("bid", (era, seeker, desk, amount))


def told_letter(era, desk, seeker, serial, price, own):
    """The letter in which the desk tells the seeker of its state."""
    return letter_of("told", (era, desk, seeker, serial, price, own))


def address(letter):
    """The kind and the number of the house to which the letter goes."""
    # Behind its kind and era a letter names the house that sends it, then the one that gets it.
    return ("desk" if letter[0] == "bid" else "seeker", letter[3])


def write_letter(letter):
    """The line of the letter."""
    return " ".join([str(item) for item in letter])


def read_letter(text):
    """The letter that a line writes."""
    look_at_text(text)
    kind, *items = text.split(" ")
    if kind not in ITEMS or len(items) != len(ITEMS[kind]):
        raise Unread(1)
    if not all([is_number(item) for item in items]):
        raise Unread(1)
    return letter_of(kind, [int(item) for item in items])


def letter_of(kind, numbers):
    """The letter of this kind with these items."""
    for word, number in zip(ITEMS[kind], numbers):
        look_at_item(word, number)
    return (kind, *numbers)


def look_at_item(word, number):
    """Refuse an item that is out of the bounds that its word has in letters."""
    greatest = {
        "era": MOST_ERA,
        "seeker": MOST_SEEKERS - 1,
        "desk": MOST_DESKS - 1,
        "amount": MOST_PRICE,
        "serial": MOST_SERIAL,
        "price": MOST_PRICE,
        "own": MOST_PRICE,
    }
    within(word, number, -1 if word == "own" else 0, greatest[word])
