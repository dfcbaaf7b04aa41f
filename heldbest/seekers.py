"""Seekers, which bid for places."""

from heldbest.choosing import choose, look_at_scale, row_of_some
from heldbest.houses import House
from heldbest.letters import bid_letter, look_at_item
from heldbest.limits import within


class SeekerHouse(House):
    """A seeker with its own row, what it knows of the desks, and its bid."""

    KIND = "seeker"

    def __init__(self, number, era, row, scale, bid=None):
        look_at_item("seeker", number)
        super().__init__(number, era)
        self.moved(era, row, scale, bid)

    @property
    def row(self):
        """The worths of the desks."""
        return self._row

    @property
    def scale(self):
        """The factor from a worth to a weight."""
        return self._scale

    @property
    def known(self):
        """For each desk the known serial and the known price."""
        return self._known

    def decide(self):
        """Choose if it is idle; the bid that it has then, or None."""
        if self.state == "idle":
            self.bid = choose(self._row, self._scale, [price for _, price in self._known])
            self.state = "out" if self.bid is None else "waiting"
        return self.bid

    def hear(self, desk, serial, price, own):
        """Hear of a desk's serial and price, and of the own amount there or -1."""
        within("desk", desk, 0, len(self._row) - 1)
        look_at_item("serial", serial)
        look_at_item("price", price)
        look_at_item("own", own)
        if serial >= self._known[desk][0]:
            self._known = (*self._known[:desk], (serial, price), *self._known[desk + 1:])
            if self.bid is not None and self.bid[0] == desk:
                self._hear_of_bid(price, own)

    def _hear_of_bid(self, price, own):
        """Hear of the price at the desk of its bid, and of the own amount there or -1."""
        amount = self.bid[1]
        if own == amount:
            self.state = "settled"
        elif own == -1 and price >= amount:
            self.bid = None
            self.state = "idle"

    def letter(self):
        """The letter of its bid, or None."""
        if self.bid is None:
            return None
        desk, amount = self.bid
        return bid_letter(self.era, self.number, desk, amount)

    def words(self):
        """The words of the seeker's line."""
        head = super().words()
        desk, amount = (-1, 0) if self.bid is None else self.bid
        known = [str(item) for pair in self._known for item in pair]
        return (*head, self.state, str(desk), str(amount), "knows", *known)

    def copied(self):
        """A new seeker in the same state."""
        house = SeekerHouse(self.number, self.era, self._row, self._scale, self.bid)
        house.state = self.state
        house._known = self._known
        return house

    def moved(self, era, row, scale, bid):
        """Come to this era as a new seeker with this row, scale and bid."""
        look_at_item("era", era)
        worths = row_of_some(row)
        look_at_scale(scale)
        own = bid_of(bid, len(worths))
        self.era = era
        self.bid = own
        self.state = "idle" if own is None else "waiting"
        self._row = worths
        self._scale = scale
        self._known = ((0, 0),) * len(worths)


def bid_of(bid, desks):
    """A copy of the bid for one of so many desks, or None."""
    if bid is None:
        return None
    desk, amount = bid
    within("desk", desk, 0, desks - 1)
    look_at_item("amount", amount)
    return (desk, amount)
