"""The looks at parameters that mean the same in every function.

A function that looks at a list returns a copy of it, so that later changes
of the list have no effect.
"""

from heldbest.limits import MOST_MEASURE, MOST_PRICE, MOST_SLACK, MOST_TEXT, MOST_WORTH, within


def look_at_seeker(table, seeker):
    within("seeker", seeker, 0, table.seekers - 1)


def look_at_desk(table, desk):
    within("desk", desk, 0, table.desks - 1)


def look_at_desk_or_none(table, desk):
    """Like `look_at_desk`, but -1 stands for no desk."""
    within("desk", desk, -1, table.desks - 1)


def look_at_measure(measure):
    within("measure", measure, 1, MOST_MEASURE)


def look_at_slack(slack):
    within("slack", slack, 0, MOST_SLACK)


def look_at_text(text):
    within("text", len(text), 0, MOST_TEXT)


def numbers_of(word, numbers, length, item, most):
    """The numbers, so many of them and each from 0 to `most`; the words are those of refusals."""
    within(word, len(numbers), length, length)
    for number in numbers:
        within(item, number, 0, most)
    return tuple(numbers)


def row_of(row, desks):
    """The row of a seeker where there are so many desks."""
    return numbers_of("row", row, desks, "worth", MOST_WORTH)


def held_of(table, held):
    """The assignment, which need not fit."""
    within("held", len(held), table.seekers, table.seekers)
    for desk in held:
        look_at_desk_or_none(table, desk)
    return tuple(held)


def prices_of(table, prices):
    """The price row."""
    return numbers_of("prices", prices, table.desks, "price", MOST_PRICE)
