"""Steps of seekers from desk to desk."""

from heldbest.errors import Unfit
from heldbest.limits import within
from heldbest.parameters import held_of, look_at_desk_or_none, look_at_seeker
from heldbest.strands import difference


def strand_gain(table, steps):
    """The sum of the new worths less the sum of the old worths."""
    return sum([
        table.worth(seeker, new) - table.worth(seeker, old)
        for seeker, old, new in steps_of(table, steps)
    ])


def follow(table, held, steps):
    """The assignment behind all steps, which need not fit."""
    seated = list(held_of(table, held))
    for at, (seeker, old, new) in enumerate(steps_of(table, steps)):
        if seated[seeker] != old:
            raise Unfit(("step", at))
        seated[seeker] = new
    return tuple(seated)


def mixed(table, one, two, picks):
    """The assignment `one` with the picked strands of the difference done."""
    strands = difference(table, one, two)
    least = 0
    for pick in picks:
        within("pick", pick, least, len(strands) - 1)
        least = pick + 1
    steps = [step for pick in picks for step in strands[pick][1]]
    return follow(table, one, steps)


def steps_of(table, steps):
    """A copy of the steps, whose seekers and desks there are."""
    for seeker, old, new in steps:
        look_at_seeker(table, seeker)
        look_at_desk_or_none(table, old)
        look_at_desk_or_none(table, new)
    return [(seeker, old, new) for seeker, old, new in steps]
