"""Words of lines, numbers as they are written, and lines of a word and numbers."""

from heldbest.errors import Unread
from heldbest.parameters import look_at_text

DIGITS = "0123456789"
MOST_DIGITS = 6


def is_number(word):
    """True if the word is a written number."""
    digits = word[1:] if word.startswith("-") else word
    if len(digits) < 1 or len(digits) > MOST_DIGITS:
        return False
    if not all([digit in DIGITS for digit in digits]):
        return False
    return word == "0" or digits[0] != "0"


def split_words(line):
    """The words of a line, none of them empty."""
    words = line.split(" ")
    if "" in words:
        raise Unread(1)
    return tuple(words)


def lines_of(text):
    """The lines of a text that is not too long."""
    look_at_text(text)
    return text.split("\n")


def number_line(word, numbers):
    """The line of a word and the numbers behind it."""
    return " ".join([word] + [str(number) for number in numbers])


def numbers_on(lines, line, word, least):
    """The numbers behind the word on a line, at least so many of them.

    Lines count from 1. A line behind the last one is the text that ends too early.
    """
    if line > len(lines):
        raise Unread(line)
    first, *rest = lines[line - 1].split(" ")
    if first != word or len(rest) < least:
        raise Unread(line)
    if not all([is_number(item) for item in rest]):
        raise Unread(line)
    return tuple([int(item) for item in rest])
