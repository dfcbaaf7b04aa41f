"""Best assignments behind one change of the table."""

from heldbest.chains import follow
from heldbest.changes import changed
from heldbest.gains import best_change, ways_from
from heldbest.lots import lot_without, seekers_of
from heldbest.parameters import held_of
from heldbest.solving import look_at_best
from heldbest.strands import strands_between


def mend(before, held, after):
    """A best assignment of `after`, and the strand that leads to it from `held`, or None."""
    seated = held_of(before, held)
    look_at_best(before, seated)
    change = changed(before, after)
    if change is None:
        return (seated, None)
    kind, number = change
    if kind == "joined":
        seated = (*seated, -1)
    if kind == "places":
        steps = steps_at_desk(before, seated, number, after.places[number])
    else:
        steps = steps_of_seeker(after, seated, number)
    mended = follow(after, seated, steps)
    strands = strands_between(after, seated, mended)
    return (mended, strands[0] if strands else None)


def steps_of_seeker(table, held, seeker):
    """The steps to a best assignment if only the row of this seeker is new."""
    return best_change(table, held, lot_without(table, None, seeker), seeker)[1]


def steps_at_desk(table, held, desk, places):
    """The steps to a best assignment if the desk of the table has these places instead."""
    begin, end = (-1, desk) if places > table.places[desk] else (desk, -1)
    return ways_from(table, held, seekers_of(table), begin)[end][1]
