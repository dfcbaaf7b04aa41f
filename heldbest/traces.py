"""Events and traces as texts, and the worlds that they lead to."""

from heldbest.errors import BadEvent, HeldError, Unread
from heldbest.events import act
from heldbest.parameters import look_at_text
from heldbest.words import is_number, lines_of
from heldbest.worlds import World

FORMS = {
    "bring": ("number",),
    "copy": ("number",),
    "lose": ("number",),
    "nudge": ("number",),
    "trip": ("number", "number"),
    "sync": ("number",),
    "post": ("number",),
    "fall": ("kind", "number", "number"),
    "rise": ("kind", "number"),
    "stumble": ("kind", "number", "number"),
    "compact": ("kind", "number"),
    "tear": ("kind", "number", "number"),
    "serve": (),
}

HOWS = ("cold", "best", "mend", "given")


def write_event(event):
    """The line of the event."""
    word, *items = event
    if word == "turn":
        change, how, start = items
        return " ".join([word, *words_of_change(change), how, *[word_of_entries(entries) for entries in start]])
    told = items[0] if word == "join" else items
    return " ".join([word, *[str(item) for item in told]])


def read_event(text):
    """The event that a line writes."""
    look_at_text(text)
    return event_on(text)


def write_trace(events):
    """The text of the events."""
    return "\n".join([write_event(event) for event in events])


def read_trace(text):
    """The events that a text writes."""
    lines = lines_of(text)
    if text == "":
        return ()
    events = []
    for at, line in enumerate(lines, start=1):
        try:
            events.append(event_on(line))
        except Unread:
            raise Unread(at) from None
    return tuple(events)


def replay(table, *events):
    """A new world of the table in which the events were done."""
    world = World(table)
    for at, event in enumerate(events):
        try:
            act(world, event)
        except HeldError as error:
            raise BadEvent(at) from error
    return world


def words_of_change(change):
    """The words of the change of a turn."""
    word, *items = change
    if word == "row":
        seeker, row = items
        items = [seeker, *row]
    return [word, *[str(item) for item in items]]


def word_of_entries(entries):
    """The word of one desk's entries."""
    pieces = [f"{seeker}:{amount}" for seeker, amount in entries]
    return "-" if len(pieces) == 0 else ",".join(pieces)


def event_on(line):
    """The event that the line writes; all that does not fit is told as line 1."""
    word, *words = line.split(" ")
    if word == "join":
        fit(len(words) > 0)
        return (word, numbers_in(words))
    if word == "turn":
        return (word, *turn_in(words))
    fit(word in FORMS)
    form = FORMS[word]
    fit(len(words) == len(form))
    return (word, *[item_in(item, told) for item, told in zip(form, words)])


def turn_in(words):
    """The change, the word for how, and the start, that the words tell."""
    hows = [at for at, word in enumerate(words) if word in HOWS]
    fit(len(hows) > 0)
    at = hows[0]
    return (change_in(words[:at]), words[at], start_in(words[at], words[at + 1:]))


def change_in(words):
    """The change of a turn that the words tell."""
    if words == ["same"]:
        return ("same",)
    fit(len(words) > 0)
    numbers = numbers_in(words[1:])
    if words[0] == "places":
        fit(len(numbers) == 2)
        return ("places", *numbers)
    fit(words[0] == "row" and len(numbers) > 1)
    return ("row", numbers[0], numbers[1:])


def start_in(how, words):
    """The start of a turn that the words tell, which is empty unless it is given."""
    fit((len(words) > 0) == (how == "given"))
    return tuple([entries_in(word) for word in words])


def entries_in(word):
    """The entries of one desk that the word tells."""
    if word == "-":
        return ()
    return tuple([entry_in(piece) for piece in word.split(",")])


def entry_in(piece):
    """The entry that the piece of a word tells."""
    words = piece.split(":")
    fit(len(words) == 2)
    return numbers_in(words)


def numbers_in(words):
    """The numbers that the words tell."""
    return tuple([item_in("number", word) for word in words])


def item_in(item, word):
    """The number or the kind of house that the word tells."""
    if item == "kind":
        fit(word in ("desk", "seeker"))
        return word
    fit(is_number(word))
    return int(word)


def fit(holds):
    """Refuse the line unless this holds."""
    if not holds:
        raise Unread(1)
