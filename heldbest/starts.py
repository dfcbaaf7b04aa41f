"""Starts: the entries of each desk of a table."""

from heldbest.entries import look_at_amount, price_of
from heldbest.errors import BadStart
from heldbest.judging import look_at_accepted
from heldbest.limits import within
from heldbest.parameters import look_at_seeker


def start_fault(table, start):
    """The fault of the start, or None."""
    desks = desks_of(table, start)
    for desk, entries in enumerate(desks):
        fault = entries_fault(table, desk, entries) or amount_fault(table, desk, entries)
        if fault is not None:
            return fault
    return twice_fault(table, desks) or envy_fault(table, desks)


def start_held(table, start):
    """The assignment of the start."""
    desks = sound_desks(table, start)
    held = [-1] * table.seekers
    for desk, entries in enumerate(desks):
        for seeker, _ in entries:
            held[seeker] = desk
    return tuple(held)


def start_prices(table, start):
    """The prices of the desks."""
    return tuple(prices_at(table, sound_desks(table, start)))


def start_of(table, held, prices):
    """The start in which each holder has the scale times its desk's price as its amount."""
    look_at_accepted(table, held, prices)
    amounts = [table.scale * price for price in prices]
    return tuple([
        tuple([(seeker, amounts[desk]) for seeker, own in enumerate(held) if own == desk])
        for desk in range(table.desks)
    ])


def is_cold(table, start):
    """True if the start has no entries."""
    return not any([len(entries) > 0 for entries in desks_of(table, start)])


def desks_of(table, start):
    """A copy of the start, whose faults were not looked for."""
    within("start", len(start), table.desks, table.desks)
    return tuple([pairs_of(table, entries) for entries in start])


def pairs_of(table, entries):
    """A copy of the entries of one desk, in whatever number and order they are."""
    for seeker, amount in entries:
        look_at_seeker(table, seeker)
        look_at_amount(amount)
    return tuple([(holder, own) for holder, own in entries])


def sound_desks(table, start):
    """A copy of a start without a fault."""
    fault = start_fault(table, start)
    if fault is not None:
        raise BadStart(fault)
    return desks_of(table, start)


def prices_at(table, desks):
    """The prices of desks that have no more entries than places."""
    return [price_of(entries, places) for entries, places in zip(desks, table.places)]


def entries_fault(table, desk, entries):
    """What is wrong with the seekers of one desk's entries, or None."""
    if len(entries) > table.places[desk]:
        return ("places", desk)
    seekers = [seeker for seeker, _ in entries]
    if seekers != sorted(set(seekers)):
        return ("order", desk)
    for seeker in seekers:
        if table.worth(seeker, desk) == 0:
            return ("worth", desk, seeker)
    return None


def amount_fault(table, desk, entries):
    """The fault of an amount above the weight, or None."""
    for seeker, amount in entries:
        if amount > table.weight(seeker, desk):
            return ("amount", desk, seeker)
    return None


def twice_fault(table, desks):
    """The fault of the least seeker at more than one desk, or None."""
    holders = [seeker for entries in desks for seeker, _ in entries]
    for seeker in range(table.seekers):
        if holders.count(seeker) > 1:
            return ("twice", seeker)
    return None


def envy_fault(table, desks):
    """The fault of the least seeker that would rather bid at another desk, or None."""
    prices = prices_at(table, desks)
    seated = sorted([(seeker, desk, amount) for desk, entries in enumerate(desks) for seeker, amount in entries])
    for seeker, desk, amount in seated:
        left = table.weight(seeker, desk) - amount
        for other, price in enumerate(prices):
            if other != desk and table.weight(seeker, other) - price - 1 > left:
                return ("envy", seeker, other)
    return None
