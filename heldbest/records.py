"""Records: lines of words with their sum, of which a torn one is never read."""

from heldbest.errors import BadWord
from heldbest.limits import within
from heldbest.parameters import look_at_text
from heldbest.sums import sum_of

CHARACTERS = "abcdefghijklmnopqrstuvwxyz0123456789-"
MOST_WORDS = 100


def write_record(words):
    """The written record of the words."""
    within("words", len(words), 1, MOST_WORDS)
    for word in words:
        if not is_record_word(word):
            raise BadWord(word)
    body = " ".join(words)
    return f"{body} {written_sum(body)}\n"


def read_records(text):
    """The records of the text, and True if it is torn."""
    look_at_text(text)
    return records_in(text)


def records_in(text):
    """The records of a text of any length, and True if it is torn."""
    *lines, rest = text.split("\n")
    records = []
    for line in lines:
        record = record_on(line)
        if record is None:
            return (tuple(records), True)
        records.append(record)
    return (tuple(records), rest != "")


def first_record(text):
    """The first record of a text of any length, or None."""
    line, feed, _ = text.partition("\n")
    return None if feed == "" else record_on(line)


def numbers_record(word, numbers):
    """The written record of a word and the numbers behind it."""
    return write_record([word] + [str(number) for number in numbers])


def record_on(line):
    """The words of the record that the line writes, or None."""
    body, _, told = line.rpartition(" ")
    words = body.split(" ")
    if not all([is_record_word(word) for word in words]) or told != written_sum(body):
        return None
    return tuple(words)


def is_record_word(word):
    """True if the string may stand in a record."""
    return word != "" and all([character in CHARACTERS for character in word])


def written_sum(body):
    """The sum of the body, as it stands behind it."""
    return f"{sum_of(body):04d}"
