"""The clerk, who keeps the slips that were noted."""

from heldbest.bills import bill
from heldbest.errors import BadSlips
from heldbest.letters import look_at_item
from heldbest.parameters import look_at_desk
from heldbest.seats import value
from heldbest.slips import fault_of, held_in, lot_in, slip_of


class Clerk:
    """The last slip of each desk, and what all of them tell."""

    def __init__(self, table, era):
        look_at_item("era", era)
        self._table = table
        self._era = era
        self._keep((None,) * table.desks)

    @property
    def noted(self):
        """For each desk the slip that was noted last, or None."""
        return self._noted

    @property
    def trouble(self):
        """The fault of the slips, or None."""
        return self._trouble

    @property
    def lot(self):
        """The lot of the slips; None if they have a fault."""
        return self._lot

    @property
    def held(self):
        """The assignment of the slips; None if they have a fault."""
        return self._held

    def note(self, *slips):
        """Note the slips, each in place of the one of the same desk."""
        noted = list(self._noted)
        for slip in slips:
            look_at_desk(self._table, slip[0])
            noted[slip[0]] = slip_of(self._table, slip)
        self._keep(tuple(noted))

    def worth(self):
        """The value of the assignment."""
        self._look_at_trouble()
        return value(self._table, self._held)

    def bills(self):
        """The bill of each desk."""
        self._look_at_trouble()
        return tuple([bill(self._table, slip[3]) for slip in self._noted])

    def _keep(self, noted):
        """Keep these slips, and what all of them tell."""
        fault = fault_of(self._table, self._era, noted)
        self._noted = noted
        self._trouble = fault
        self._lot = lot_in(self._table, noted) if fault is None else None
        self._held = held_in(self._table, noted) if fault is None else None

    def _look_at_trouble(self):
        """Refuse slips with a fault."""
        if self._trouble is not None:
            raise BadSlips(self._trouble)
