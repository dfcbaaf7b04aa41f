"""Assignments and price rows as texts."""

from heldbest.errors import Unread
from heldbest.parameters import held_of, prices_of
from heldbest.words import lines_of, number_line, numbers_on


def write_paper(table, held, prices):
    """The text of an assignment and a price row."""
    seated = held_of(table, held)
    row = prices_of(table, prices)
    return "\n".join([number_line("held", seated), number_line("prices", row)])


def read_paper(table, text):
    """The assignment and the price row that a text writes."""
    lines = lines_of(text)
    held = numbers_on(lines, 1, "held", 0)
    prices = numbers_on(lines, 2, "prices", 1)
    if len(lines) > 2:
        raise Unread(3)
    return (held_of(table, held), prices_of(table, prices))
