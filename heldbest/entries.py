"""The entries of one desk."""

from heldbest.limits import MOST_PLACES, MOST_PRICE, MOST_SEEKERS, within


def price_of(entries, places):
    """The price of a desk with these entries and places."""
    taken = seated_entries(entries, places)
    look_at_room(taken, places)
    return least_amount(taken, places)


def amount_of(entries, seeker):
    """The amount of the seeker's entry, or -1."""
    taken = entries_of(entries)
    look_at_bidder(seeker)
    return own_amount(taken, seeker)


def take(entries, places, seeker, amount):
    """The outcome of a bid, the entries afterwards, and the seeker that is put out or -1."""
    taken = seated_entries(entries, places)
    look_at_bidder(seeker)
    look_at_amount(amount)
    look_at_room(taken, places)
    return taken_bid(taken, places, seeker, amount)


def taken_bid(entries, places, seeker, amount):
    """What `take` answers of what was looked at already."""
    if own_amount(entries, seeker) != -1:
        return ("held", entries, -1)
    if amount <= least_amount(entries, places):
        return ("low", entries, -1)
    out = weakest(entries) if len(entries) == places else -1
    kept = [entry for entry in entries if entry[0] != out]
    return ("taken", tuple(sorted([*kept, (seeker, amount)])), out)


def seated_entries(entries, places):
    """A copy of the entries, when the places were looked at, too."""
    taken = entries_of(entries)
    look_at_places(places)
    return taken


def entries_of(entries):
    """A copy of the entries."""
    within("entries", len(entries), 0, MOST_PLACES)
    least = 0
    for seeker, amount in entries:
        within("seeker", seeker, least, MOST_SEEKERS - 1)
        look_at_amount(amount)
        least = seeker + 1
    return tuple([(seeker, amount) for seeker, amount in entries])


def look_at_bidder(seeker):
    within("seeker", seeker, 0, MOST_SEEKERS - 1)


def look_at_amount(amount):
    within("amount", amount, 0, MOST_PRICE)


def look_at_places(places):
    within("places", places, 1, MOST_PLACES)


def look_at_room(entries, places):
    """Refuse more entries than places."""
    within("entries", len(entries), 0, places)


def least_amount(entries, places):
    """The price; a desk with a place left asks for nothing."""
    if len(entries) < places:
        return 0
    return min([amount for _, amount in entries])


def own_amount(entries, seeker):
    """The amount of the seeker's entry, or -1."""
    for holder, amount in entries:
        if holder == seeker:
            return amount
    return -1


def weakest(entries):
    """The seeker of the least amount, of several the greatest seeker."""
    least = min([amount for _, amount in entries])
    return max([seeker for seeker, amount in entries if amount == least])
