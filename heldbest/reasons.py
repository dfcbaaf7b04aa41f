"""Reasons why an accepted row cannot be less at a desk."""

from heldbest.duals import gain_at
from heldbest.judging import look_at_accepted
from heldbest.parameters import held_of, look_at_desk, look_at_seeker, prices_of


def reason(table, held, prices, desk):
    """A reason for the desk, or None if there is none."""
    seated = held_of(table, held)
    row = prices_of(table, prices)
    look_at_desk(table, desk)
    look_at_accepted(table, seated, row)
    if row[desk] == 0:
        return ()
    return lists_of_steps(table, seated, row).get(desk)


def reason_fault(table, held, prices, desk, steps):
    """None if the steps are a reason for the desk, otherwise their first fault."""
    seated = held_of(table, held)
    row = prices_of(table, prices)
    look_at_desk(table, desk)
    pairs = pairs_of(table, steps)
    look_at_accepted(table, seated, row)
    if (row[desk] > 0) != (len(pairs) > 0):
        return ("count",)
    for at in range(len(pairs)):
        fault = step_fault(table, seated, row, pairs[:at + 1])
        if fault is not None:
            return (fault, at)
    if len(pairs) > 0 and pairs[-1][1] != desk:
        return ("end",)
    return None


def pairs_of(table, steps):
    """A copy of the steps, whose seekers and desks there are."""
    for seeker, desk in steps:
        look_at_seeker(table, seeker)
        look_at_desk(table, desk)
    return [(mover, new) for mover, new in steps]


def lists_of_steps(table, held, prices):
    """For each desk for which there is one, steps that may stand in a reason and end at it."""
    found = {}
    # The shortest steps to a desk need no desk twice.
    for _ in range(table.desks):
        for seeker, new in tight_steps(table, held, prices):
            own = held[seeker]
            if new not in found and may_begin(own, prices):
                found[new] = ((seeker, new),)
            elif new not in found and own in found:
                found[new] = (*found[own], (seeker, new))
    return found


def tight_steps(table, held, prices):
    """All seekers with a desk that they do not hold, but would as gladly as what they hold."""
    return [
        (seeker, new)
        for seeker, own in enumerate(held)
        for new in range(table.desks)
        if new != own and is_tight(table, seeker, own, new, prices)
    ]


def step_fault(table, held, prices, steps):
    """The word for what is wrong with the last of the steps, or None."""
    seeker, new = steps[-1]
    own = held[seeker]
    if own == new:
        return "desk"
    linked = may_begin(own, prices) if len(steps) == 1 else own == steps[-2][1]
    if not linked:
        return "link"
    return None if is_tight(table, seeker, own, new, prices) else "tight"


def may_begin(own, prices):
    """True if a reason may begin with a seeker that holds this."""
    return own == -1 or prices[own] == 0


def is_tight(table, seeker, own, new, prices):
    """True if the seeker gains at the new desk what it gains at its own."""
    return gain_at(table, seeker, new, prices, 1) == gain_at(table, seeker, own, prices, 1)
