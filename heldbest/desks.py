"""Desks, which take bids."""

from heldbest.entries import (
    entries_of, least_amount, look_at_amount, look_at_bidder, look_at_places, look_at_room, own_amount, taken_bid,
)
from heldbest.houses import House
from heldbest.letters import look_at_item, told_letter
from heldbest.limits import MOST_SERIAL


class DeskHouse(House):
    """A desk with its entries, and with those who wait to be told of them."""

    KIND = "desk"

    def __init__(self, number, era, places, entries=(), *, serial=0):
        look_at_item("desk", number)
        super().__init__(number, era)
        self._waits = ()
        self.moved(era, places, entries)
        look_at_item("serial", serial)
        self.serial = serial

    @property
    def entries(self):
        """The entries, in ascending order of seekers."""
        return self._entries

    @property
    def price(self):
        """The price of the entries."""
        return least_amount(self._entries, self.places)

    @property
    def waits(self):
        """The seekers that are to be told, in the order in which they came."""
        return self._waits

    def take(self, seeker, amount):
        """Take the bid, and tell the outcome."""
        look_at_bidder(seeker)
        look_at_amount(amount)
        outcome, entries, out = taken_bid(self._entries, self.places, seeker, amount)
        if outcome == "taken" and self.serial == MOST_SERIAL:
            outcome, out = "low", -1
        if outcome == "taken":
            self.serial += 1
            self._entries = entries
        self.wait(seeker)
        if out != -1:
            self.wait(out)
        return outcome

    def wait(self, seeker):
        """Add the seeker to the waiting list, unless it is on it."""
        look_at_bidder(seeker)
        if seeker not in self._waits:
            self._waits = (*self._waits, seeker)

    def told(self, seeker):
        """The letter that tells the seeker of the present state."""
        own = own_amount(self._entries, seeker)
        return told_letter(self.era, self.number, seeker, self.serial, self.price, own)

    def served(self):
        """Empty the waiting list, and tell who was on it."""
        waits = self._waits
        self._waits = ()
        return waits

    def words(self):
        """The words of the desk's line."""
        head = super().words()
        entries = [str(item) for entry in self._entries for item in entry]
        waits = [str(seeker) for seeker in self._waits]
        return (*head, str(self.places), str(self.serial), "entries", *entries, "waits", *waits)

    def copied(self):
        """A new desk in the same state."""
        house = DeskHouse(self.number, self.era, self.places, self._entries, serial=self.serial)
        house._waits = self._waits
        return house

    def moved(self, era, places, entries):
        """Come to this era with these places and entries; those who wait still wait."""
        look_at_item("era", era)
        look_at_places(places)
        taken = entries_of(entries)
        look_at_room(taken, places)
        self.era = era
        self.places = places
        self.serial = 0
        self._entries = taken
