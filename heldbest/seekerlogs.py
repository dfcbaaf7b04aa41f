"""The records in the logs of seekers."""

from heldbest.letters import look_at_item
from heldbest.limits import MOST_GENERATION, within
from heldbest.parameters import look_at_text
from heldbest.records import numbers_record, records_in

NO_BID = (-1, 0)


def seeker_head(generation, era, bid):
    """The record with which a slot begins."""
    within("generation", generation, 0, MOST_GENERATION)
    look_at_item("era", era)
    items = NO_BID if bid is None else items_of_bid(bid)
    return numbers_record("head", [generation, era, *items])


def bid_record(era, bid):
    """The record of a new bid."""
    look_at_item("era", era)
    items = items_of_bid(bid)
    return numbers_record("bid", [era, *items])


def seeker_state(text):
    """The generation of a slot's text, the era, and the bid or None; None if the slot is not good."""
    look_at_text(text)
    return seeker_state_in(text)


def seeker_state_in(text):
    """The same of a text of any length."""
    records = records_in(text)[0]
    if len(records) == 0 or records[0][0] != "head":
        return None
    era, desk, amount = [int(word) for word in records[-1][-3:]]
    return (int(records[0][1]), era, None if desk == -1 else (desk, amount))


def items_of_bid(bid):
    """The desk and the amount of the bid."""
    desk, amount = bid
    look_at_item("desk", desk)
    look_at_item("amount", amount)
    return (desk, amount)
