"""Slips of a table and an era, written at any moment."""

from heldbest.duals import profit
from heldbest.entries import least_amount
from heldbest.errors import BadSlips
from heldbest.judging import envy
from heldbest.letters import look_at_item
from heldbest.limits import within
from heldbest.starts import entries_fault, pairs_of, twice_fault


def slips_fault(table, era, slips):
    """The fault of the slips, or None."""
    return fault_of(table, era, slips_of(table, era, slips))


def slips_held(table, era, slips):
    """The assignment of the slips."""
    return held_in(table, sound_slips(table, era, slips))


def slips_lot(table, era, slips):
    """The holders of the slips, and the seekers that would have nothing of a desk at its price."""
    return lot_in(table, sound_slips(table, era, slips))


def write_slip(slip):
    """The line of the slip."""
    desk, _, serial, price, entries = slip
    words = ["desk", str(desk), "serial", str(serial), "price", str(price)]
    return " ".join(words + [f"{seeker}:{amount}" for seeker, amount in entries])


def slips_of(table, era, slips):
    """A copy of the slips, whose faults were not looked for."""
    look_at_item("era", era)
    within("slips", len(slips), table.desks, table.desks)
    return tuple([None if slip is None else slip_of(table, slip) for slip in slips])


def slip_of(table, slip):
    """A copy of one slip."""
    desk, era, serial, price, entries = slip
    look_at_item("desk", desk)
    look_at_item("era", era)
    look_at_item("serial", serial)
    look_at_item("price", price)
    return (desk, era, serial, price, pairs_of(table, entries))


def sound_slips(table, era, slips):
    """A copy of slips without a fault."""
    copies = slips_of(table, era, slips)
    fault = fault_of(table, era, copies)
    if fault is not None:
        raise BadSlips(fault)
    return copies


def fault_of(table, era, slips):
    """The fault of what was looked at already, or None."""
    for desk, slip in enumerate(slips):
        fault = fault_at(table, era, desk, slip)
        if fault is not None:
            return fault
    return twice_fault(table, [slip[4] for slip in slips]) or envy_in(table, slips)


def fault_at(table, era, desk, slip):
    """What is wrong with the slip at the place of this desk, or None."""
    if slip is None:
        return ("missing", desk)
    number, own_era, _, price, entries = slip
    if number != desk:
        return ("desk", desk)
    if own_era != era:
        return ("era", desk)
    fault = entries_fault(table, desk, entries)
    if fault is None and price != least_amount(entries, table.places[desk]):
        return ("price", desk)
    return fault


def envy_in(table, slips):
    """The fault of the least holder that is not content, or None."""
    prices = prices_in(slips)
    for seeker, desk in enumerate(held_in(table, slips)):
        if desk != -1:
            rather = envy(table, seeker, desk, prices, measure=table.scale, slack=1)
            if rather is not None:
                return ("envy", seeker, rather)
    return None


def prices_in(slips):
    """The prices of the slips."""
    return tuple([slip[3] for slip in slips])


def held_in(table, slips):
    """The assignment of slips in which nobody has entries twice."""
    held = [-1] * table.seekers
    for slip in slips:
        for seeker, _ in slip[4]:
            held[seeker] = slip[0]
    return tuple(held)


def lot_in(table, slips):
    """The lot of slips without a fault."""
    prices = prices_in(slips)
    return tuple([
        seeker for seeker, desk in enumerate(held_in(table, slips))
        if desk != -1 or profit(table, seeker, prices, measure=table.scale) == 0
    ])
