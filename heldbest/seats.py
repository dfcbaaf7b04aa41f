"""What an assignment seats at the desks."""

from heldbest.errors import Unfit
from heldbest.parameters import held_of, look_at_desk


def seat_fault(table, held):
    """The fault of the assignment, or None if it fits."""
    seated = held_of(table, held)
    for seeker, desk in enumerate(seated):
        if desk != -1 and table.worth(seeker, desk) == 0:
            return ("seeker", seeker)
    for desk, places in enumerate(table.places):
        if seated.count(desk) > places:
            return ("desk", desk)
    return None


def loads(table, held):
    """The number of holders of each desk."""
    seated = held_of(table, held)
    return tuple([seated.count(desk) for desk in range(table.desks)])


def value(table, held):
    """The sum of the worths at the desks that are held."""
    look_at_fit(table, held)
    return sum([table.worth(seeker, desk) for seeker, desk in enumerate(held)])


def holders(table, held, desk):
    """The seekers that hold the desk."""
    seated = held_of(table, held)
    look_at_desk(table, desk)
    return tuple([seeker for seeker, own in enumerate(seated) if own == desk])


def look_at_fit(table, held):
    """Refuse an assignment that does not fit."""
    fault = seat_fault(table, held)
    if fault is not None:
        raise Unfit(fault)
