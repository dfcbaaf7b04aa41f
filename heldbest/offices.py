"""The office, which is told commands."""

from heldbest.bills import bills, ledger
from heldbest.columns import columns
from heldbest.errors import NothingToRedo, NothingToUndo
from heldbest.events import act
from heldbest.moments import held_now, lot_now, slips_now
from heldbest.seats import value
from heldbest.serving import rest
from heldbest.slips import write_slip
from heldbest.traces import read_event
from heldbest.words import number_line
from heldbest.worlds import World


class Office:
    """A world, and the steps that were done in it and may be taken back."""

    def __init__(self, table):
        self.present = World(table)
        self.steps = ()
        self.undone = ()

    @property
    def world(self):
        """The world itself."""
        return self.present

    @property
    def record(self):
        """The lines of the steps that are not taken back."""
        return tuple([line for line, _ in self.steps])

    def tell(self, text):
        """Do the command, and tell its answer as lines."""
        if text == "undo":
            self.undo()
            return ("done",)
        if text == "redo":
            self.redo()
            return ("done",)
        if text in QUESTIONS:
            question = QUESTIONS[text]
            return question(self.present)
        answer = self._step(text)
        self.undone = ()
        return answer

    def undo(self):
        """Take back the last step that is not taken back."""
        if len(self.steps) == 0:
            raise NothingToUndo()
        line, before = self.steps[-1]
        # A copy, since a trial may come back to this step.
        self.present = before.copied()
        self.steps = self.steps[:-1]
        self.undone = (*self.undone, line)

    def redo(self):
        """Do the step again that was taken back last."""
        if len(self.undone) == 0:
            raise NothingToRedo()
        self._step(self.undone[-1])
        self.undone = self.undone[:-1]

    def _step(self, line):
        """Do a step, keep the world ahead of it, and tell the answer."""
        before = self.present.copied()
        answer = done(self.present, line)
        self.steps = (*self.steps, (line, before))
        return answer


def done(world, line):
    """Do what the line of a step says, and tell the answer."""
    if line == "rest":
        return (f"rounds {rest(world)}",)
    act(world, read_event(line))
    return ("done",)


def answer_slips(world):
    """The lines of the slips."""
    return tuple([write_slip(slip) for slip in slips_now(world)])


def answer_held(world):
    """The line of what is held."""
    return (number_line("held", held_now(world)),)


def answer_lot(world):
    """The line of the lot."""
    return (number_line("lot", lot_now(world)),)


def answer_value(world):
    """The line of the value of what is held."""
    return (number_line("value", [value(world.newest_table, held_now(world))]),)


def answer_bills(world):
    """The line of the bills."""
    return (number_line("bills", bills(world)),)


def answer_ledger(world):
    """The lines of the ledger."""
    return columns(ledger(world))


QUESTIONS = {
    "slips": answer_slips,
    "held": answer_held,
    "lot": answer_lot,
    "value": answer_value,
    "bills": answer_bills,
    "ledger": answer_ledger,
}
