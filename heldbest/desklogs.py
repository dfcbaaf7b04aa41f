"""The records in the logs of desks."""

from heldbest.desks import DeskHouse
from heldbest.entries import entries_of, look_at_amount, look_at_bidder, look_at_places, look_at_room
from heldbest.letters import look_at_item
from heldbest.limits import MOST_GENERATION, within
from heldbest.parameters import look_at_text
from heldbest.records import numbers_record, records_in


def desk_head(generation, era, places, serial, entries):
    """The record with which a slot begins."""
    within("generation", generation, 0, MOST_GENERATION)
    look_at_item("era", era)
    look_at_places(places)
    look_at_item("serial", serial)
    items = items_of(entries, places)
    return numbers_record("head", [generation, era, places, serial, *items])


def take_record(seeker, amount):
    """The record of a taken bid."""
    look_at_bidder(seeker)
    look_at_amount(amount)
    return numbers_record("take", [seeker, amount])


def era_record(era, places, entries):
    """The record of a desk that came to a new era."""
    look_at_item("era", era)
    look_at_places(places)
    items = items_of(entries, places)
    return numbers_record("era", [era, places, *items])


def desk_state(text):
    """The generation of a slot's text, and the state that it tells; None if the slot is not good."""
    look_at_text(text)
    return desk_state_in(text)


def desk_state_in(text):
    """The same of a text of any length."""
    records = records_in(text)[0]
    if len(records) == 0 or records[0][0] != "head":
        return None
    generation, era, places, serial, *items = [int(word) for word in records[0][1:]]
    desk = DeskHouse(0, era, places, pairs_in(items), serial=serial)
    for word, *words in records[1:]:
        follow_record(desk, word, [int(item) for item in words])
    return (generation, desk.era, desk.places, desk.serial, desk.entries)


def follow_record(desk, word, numbers):
    """Do with the desk what a record behind the head tells."""
    if word == "take":
        seeker, amount = numbers
        desk.take(seeker, amount)
    else:
        era, places, *items = numbers
        desk.moved(era, places, pairs_in(items))


def items_of(entries, places):
    """The seekers and amounts, one after the other, of entries for which there is room."""
    taken = entries_of(entries)
    look_at_room(taken, places)
    return [item for entry in taken for item in entry]


def pairs_in(items):
    """The entries of which these are the seekers and amounts, one after the other."""
    return list(zip(items[::2], items[1::2]))
