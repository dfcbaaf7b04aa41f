"""Tables of desks and seekers."""

from heldbest.limits import MOST_DESKS, MOST_PLACES, MOST_SEEKERS, within
from heldbest.parameters import look_at_desk_or_none, look_at_seeker, row_of


class Table:
    """Desks with places, seekers with rows of worths; it never changes."""

    STEP = 3

    def __init__(self, places, rows, most):
        within("desks", len(places), 1, MOST_DESKS)
        for count in places:
            within("places", count, 1, MOST_PLACES)
        within("seekers", len(rows), 0, MOST_SEEKERS)
        copied = [row_of(row, len(places)) for row in rows]
        within("most", most, max(1, len(rows)), MOST_SEEKERS)
        self.places = tuple(places)
        self.rows = tuple(copied)
        self.most = most

    @property
    def desks(self):
        """The number of desks."""
        return len(self.places)

    @property
    def seekers(self):
        """The number of seekers."""
        return len(self.rows)

    @property
    def scale(self):
        """The factor from a worth to a weight."""
        return self.most + Table.STEP * len(self.places) + 1

    def worth(self, seeker, desk):
        """The worth of a desk, or of desk -1, for a seeker."""
        look_at_seeker(self, seeker)
        look_at_desk_or_none(self, desk)
        return 0 if desk == -1 else self.rows[seeker][desk]

    def weight(self, seeker, desk):
        """The scale times the worth."""
        return self.scale * self.worth(seeker, desk)
