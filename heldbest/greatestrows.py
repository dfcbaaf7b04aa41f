"""The greatest row of a lot."""

from heldbest.gains import ways_from
from heldbest.lots import seekers_of
from heldbest.solving import best_assignment


def greatest_prices(table, lot=None):
    """The accepted row of the lot that is at no desk less than any other one.

    It tells what the members would lose by one place less at each desk.
    """
    members = seekers_of(table, lot)
    held = best_assignment(table, members)
    ways_out = [ways_from(table, held, members, desk) for desk in range(table.desks)]
    return tuple([-ways[-1][0] for ways in ways_out])
