"""New tables that differ from a table in one thing."""

from heldbest.limits import within
from heldbest.lots import seekers_of
from heldbest.parameters import look_at_desk, look_at_seeker, row_of
from heldbest.tables import Table


def joined(table, row):
    """The table with the row as a further seeker."""
    added = row_of(row, table.desks)
    within("seekers", table.seekers + 1, 0, table.most)
    return Table(table.places, [*table.rows, added], table.most)


def rowed(table, seeker, row):
    """The table with the row as this seeker's."""
    look_at_seeker(table, seeker)
    rows = list(table.rows)
    rows[seeker] = row_of(row, table.desks)
    return Table(table.places, rows, table.most)


def valued(table, seeker, desk, worth):
    """The table with the worth in this cell."""
    look_at_seeker(table, seeker)
    look_at_desk(table, desk)
    row = list(table.rows[seeker])
    row[desk] = worth
    return rowed(table, seeker, row)


def placed(table, desk, places):
    """The table with this number of places at the desk."""
    look_at_desk(table, desk)
    counts = list(table.places)
    counts[desk] = places
    return Table(counts, table.rows, table.most)


def only(table, lot):
    """The table in which nobody outside of the lot wants a desk."""
    members = seekers_of(table, lot)
    unwilling = [0] * table.desks
    rows = [row if seeker in members else unwilling for seeker, row in enumerate(table.rows)]
    return Table(table.places, rows, table.most)
