"""Tables as texts."""

from heldbest.errors import Unread
from heldbest.tables import Table
from heldbest.words import lines_of, number_line, numbers_on


def write_table(table):
    """The text of a table."""
    heads = [number_line("most", [table.most]), number_line("places", table.places)]
    return "\n".join(heads + [number_line("row", row) for row in table.rows])


def read_table(text):
    """The table that a text writes."""
    lines = lines_of(text)
    most = numbers_on(lines, 1, "most", 1)
    if len(most) != 1:
        raise Unread(1)
    places = numbers_on(lines, 2, "places", 1)
    rows = [numbers_on(lines, line, "row", 1) for line in range(3, len(lines) + 1)]
    return Table(places, rows, most[0])
