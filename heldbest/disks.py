"""Disks, on which text is pending until it is synced."""

from heldbest.errors import Busy
from heldbest.limits import within
from heldbest.parameters import look_at_text

MOST_PIECE = 2000


class Disk:
    """Two slots with synced text, and pending text for one of them."""

    def __init__(self):
        self._slots = ("", "")
        self._pending = None

    @classmethod
    def holding(cls, first, second):
        """A disk with these synced texts."""
        look_at_text(first)
        look_at_text(second)
        disk = cls()
        disk._slots = (first, second)
        return disk

    @property
    def pending(self):
        """None, or the target, True if the pending text is fresh, and this text."""
        return self._pending

    def add(self, slot, text):
        """Put text behind what is pending for the slot, or behind its synced text."""
        look_at_slot(slot)
        look_at_piece(text)
        target, fresh, ahead = (slot, False, "") if self._pending is None else self._pending
        if target != slot:
            raise Busy(target)
        self._pending = (target, fresh, ahead + text)

    def begin(self, slot, text):
        """Begin the slot anew with the text."""
        look_at_slot(slot)
        look_at_piece(text)
        if self._pending is not None:
            raise Busy(self._pending[0])
        self._pending = (slot, True, text)

    def sync(self):
        """Do what is pending."""
        self.cut(self.length())

    def cut(self, keep):
        """Do what is pending with only so many of its first characters."""
        within("keep", keep, 0, self.length())
        if self._pending is None:
            return
        target, fresh, text = self._pending
        kept = text[:keep] if fresh else self._slots[target] + text[:keep]
        self._slots = (kept, self._slots[1]) if target == 0 else (self._slots[0], kept)
        self._pending = None

    def copied(self):
        """A new disk with the same text."""
        disk = Disk()
        disk._slots = self._slots
        disk._pending = self._pending
        return disk

    def length(self):
        """The length of the pending text."""
        return 0 if self._pending is None else len(self._pending[2])

    def synced(self, slot):
        """The synced text of the slot."""
        look_at_slot(slot)
        return self._slots[slot]


def look_at_slot(slot):
    within("slot", slot, 0, 1)


def look_at_piece(text):
    within("text", len(text), 1, MOST_PIECE)
