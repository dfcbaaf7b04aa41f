"""Trials of an office, behind which everything stays or nothing does."""


class Trial:
    """One block in which an office is told; if the block ends by an error, the office is as it was."""

    def __init__(self, office):
        self._office = office

    def __enter__(self):
        office = self._office
        self._present = office.present.copied()
        self._steps = office.steps
        self._undone = office.undone
        return office

    def __exit__(self, kind, value, trace):
        office = self._office
        if kind is not None:
            office.present = self._present
            office.steps = self._steps
            office.undone = self._undone


def told_together(office, *lines):
    """Tell the office the lines, all of them or none, and tell the answers."""
    with Trial(office) as inside:
        return tuple([inside.tell(line) for line in lines])
