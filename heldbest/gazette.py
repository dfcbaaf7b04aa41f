"""The gazette of the eras."""

from heldbest.edits import joined
from heldbest.limits import MOST_ERA, within
from heldbest.starts import sound_desks


class Gazette:
    """The eras, each with its table and its start."""

    def __init__(self, table):
        self._tables = (table,)
        self._starts = (((),) * table.desks,)

    @property
    def newest(self):
        """The number of the newest era."""
        return len(self._tables) - 1

    @property
    def newest_table(self):
        """The table of the newest era."""
        return self._tables[-1]

    @property
    def newest_start(self):
        """The start of the newest era."""
        return self._starts[-1]

    @property
    def cold(self):
        """True if the start of the newest era has no entries."""
        return all([len(entries) == 0 for entries in self._starts[-1]])

    def table_of(self, era):
        """The table of the era."""
        within("era", era, 0, self.newest)
        return self._tables[era]

    def start_of_era(self, era):
        """The start of the era."""
        within("era", era, 0, self.newest)
        return self._starts[era]

    def admit(self, row):
        """Replace the newest table by the one with this row as a further seeker."""
        table = joined(self.newest_table, row)
        self._tables = (*self._tables[:-1], table)

    def turn(self, table, start):
        """Open a new era with this table and start."""
        self.look_at_room()
        newest = self.newest_table
        within("desks", table.desks, newest.desks, newest.desks)
        within("seekers", table.seekers, newest.seekers, newest.seekers)
        desks = sound_desks(table, start)
        self._tables = (*self._tables, table)
        self._starts = (*self._starts, desks)

    def copied(self):
        """A new gazette with the same eras."""
        gazette = Gazette(self.newest_table)
        gazette._tables = self._tables
        gazette._starts = self._starts
        return gazette

    def look_at_room(self):
        """Refuse a further era if there are as many as there may be."""
        within("era", self.newest + 1, 0, MOST_ERA)
