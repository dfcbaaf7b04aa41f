"""The current slots of disks, and their compaction."""

from heldbest.desklogs import desk_head, desk_state_in
from heldbest.errors import BadWord, NotSynced
from heldbest.records import first_record, records_in
from heldbest.seekerlogs import seeker_head, seeker_state_in


def current_slot(kind, disk):
    """The number of the current slot, or -1 if no slot is good."""
    look_at_kind(kind)
    generations = [generation_in(disk.synced(slot)) for slot in (0, 1)]
    greatest = max(generations)
    return -1 if greatest == -1 else generations.index(greatest)


def state_on(kind, disk):
    """The state that the current slot tells, or None if no slot is good."""
    slot = current_slot(kind, disk)
    if slot == -1:
        return None
    text = disk.synced(slot)
    return desk_state_in(text) if kind == "desk" else seeker_state_in(text)


def new_head(kind, house, disk):
    """The head that a compaction of the house would write."""
    slot = current_slot(kind, disk)
    generation = generation_in(disk.synced(slot)) + 1
    if kind == "desk":
        return desk_head(generation, house.era, house.places, house.serial, house.entries)
    return seeker_head(generation, house.era, house.bid)


def compact(kind, house, disk):
    """Begin the other slot anew with the present state of the house, and sync."""
    look_at_kind(kind)
    look_at_synced(kind, house.number, disk)
    begin_anew(kind, house, disk)
    disk.sync()


def begin_anew(kind, house, disk):
    """Begin the slot that is not current anew with the present state of the house."""
    disk.begin(1 - current_slot(kind, disk), new_head(kind, house, disk))


def is_torn(kind, disk):
    """True if the text of the current slot is torn."""
    return records_in(disk.synced(current_slot(kind, disk)))[1]


def generation_in(text):
    """The generation of a slot's text, or -1 if the slot is not good."""
    record = first_record(text)
    return -1 if record is None or record[0] != "head" else int(record[1])


def look_at_kind(kind):
    if kind not in ("desk", "seeker"):
        raise BadWord(kind)


def look_at_synced(kind, number, disk):
    """Refuse a disk on which something is pending."""
    if disk.pending is not None:
        raise NotSynced(kind, number)
