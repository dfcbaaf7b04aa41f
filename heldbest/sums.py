"""Sums of strings, by which a torn text is told from a whole one."""

from heldbest.parameters import look_at_text

MODULUS = 9973


def text_sum(text):
    """The sum of the string."""
    look_at_text(text)
    return sum_of(text)


def sum_of(text):
    """The sum of a string of any length."""
    return sum([at * ord(character) for at, character in enumerate(text, start=1)]) % MODULUS
