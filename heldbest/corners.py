"""Corners: the worth in a cell from which on it is used."""

from heldbest.edits import valued
from heldbest.greatestrows import greatest_prices
from heldbest.lots import lot_without
from heldbest.solving import best_value


def corner(table, seeker, desk):
    """The corner of the cell."""
    unused = best_value(valued(table, seeker, desk, 0))
    others = lot_without(table, None, seeker)
    # The greatest price is what the others lose with one place less.
    without = best_value(table, others) - greatest_prices(table, others)[desk]
    return unused - without


def cell_use(table, seeker, desk):
    """-1 if no best assignment uses the cell, 1 if all do, 0 if some do."""
    least = corner(table, seeker, desk)
    worth = table.worth(seeker, desk)
    if worth == 0 or worth < least:
        return -1
    return 0 if worth == least else 1
