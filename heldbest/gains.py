"""The best way in of a seeker, and ways of seekers from desk to desk.

A way comes to a desk with a seeker, and goes on with a holder who leaves it.
Here -1 counts like a desk: a seeker that gives up its place comes to -1, one
that holds nothing goes on from there. Without a step a way goes on from a free
desk to -1, since nobody has to leave, and from -1 to each desk, where a holder
may leave a place empty. If what is held is best, no way that comes back to
where it was has gained anything.
"""

from heldbest.errors import Unfit
from heldbest.judging import look_at_accepted
from heldbest.lots import seekers_of
from heldbest.parameters import held_of, look_at_seeker, prices_of
from heldbest.seats import loads


def best_way(table, lot, held, prices, seeker):
    """The gain and the steps of a best way in, if the seeker comes to the lot."""
    members, seated = accepted_lot(table, lot, held, prices, seeker)
    if seeker in members:
        raise Unfit(("lot", seeker))
    return best_change(table, seated, members, seeker)


def accepted_lot(table, lot, held, prices, seeker):
    """The lot and its assignment, behind all looks at the parameters of `best_way`."""
    members = seekers_of(table, lot)
    seated = held_of(table, held)
    row = prices_of(table, prices)
    look_at_seeker(table, seeker)
    look_at_accepted(table, seated, row, members)
    return (members, seated)


def best_change(table, held, others, seeker):
    """The best gain and its steps, if the seeker may come elsewhere and the others make room for it.

    If to stay is among the best, there is no step. Without moves of the seeker nothing is to be gained.
    """
    begun = {new: (gain, steps) for _, new, gain, steps in moves_of(table, held, seeker)}
    return ways_on(table, held, others, begun)[held[seeker]]


def ways_from(table, held, movers, desk):
    """The best gain and its steps to each desk and to -1, for ways that the movers go from the desk or from -1."""
    return ways_on(table, held, movers, {desk: (0, ())})


def ways_on(table, held, movers, begun):
    """The best gain and its steps to each desk and to -1, for the begun ways and all that go on from them.

    Where nothing is to be gained and no step is needed, there is none.
    """
    # A way gives place only to a better one, so the moves without a step come first.
    moves = free_moves(table, held) + [move for mover in movers for move in moves_of(table, held, mover)]
    ways = {desk: begun[desk] for desk in begun}
    # The best way to a desk needs no desk twice, so it has no more moves than there are desks.
    for _ in range(table.desks):
        for old, new, gain, steps in moves:
            if old in ways and (new not in ways or ways[old][0] + gain > ways[new][0]):
                ways[new] = (ways[old][0] + gain, ways[old][1] + steps)
    return ways


def free_moves(table, held):
    """The moves without a step, each as old desk, new desk, gain and steps."""
    free = [desk for desk, load in enumerate(loads(table, held)) if load < table.places[desk]]
    return [(desk, -1, 0, ()) for desk in free] + [(-1, desk, 0, ()) for desk in range(table.desks)]


def moves_of(table, held, seeker):
    """The moves of one seeker, each as old desk, new desk, gain and steps; to stay is one without a step."""
    old = held[seeker]
    here = table.worth(seeker, old)
    return [
        (old, new, table.worth(seeker, new) - here, () if new == old else ((seeker, old, new),))
        for new in range(-1, table.desks)
        if new == -1 or table.worth(seeker, new) > 0
    ]
