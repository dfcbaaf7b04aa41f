"""Best assignments, found among all assignments of a lot."""

from heldbest.listings import assignments
from heldbest.seats import value


def plain_best(table, lot=None):
    """The best value of the lot and the first best assignment."""
    bests = plain_bests(table, lot)
    return (value(table, bests[0]), bests[0])


def plain_bests(table, lot=None):
    """All best assignments of the lot, in ascending order."""
    every = list(assignments(table, lot))
    values = [value(table, held) for held in every]
    greatest = max(values)
    return tuple([held for held, total in zip(every, values) if total == greatest])
