"""The one change between two tables."""

from heldbest.errors import NotOneChange


def changed(before, after):
    """The change from `before` to `after`, or None if there is none."""
    if before.desks != after.desks or before.most != after.most:
        raise NotOneChange()
    if before.places == after.places:
        return change_of_rows(before.rows, after.rows)
    if before.rows != after.rows:
        raise NotOneChange()
    return change_of_places(before.places, after.places)


def change_of_rows(old, new):
    """The change if only rows differ, or None if they do not."""
    if old == new:
        return None
    if new[:-1] == old:
        return ("joined", len(old))
    if len(old) != len(new):
        raise NotOneChange()
    return ("row", only_difference(old, new))


def change_of_places(old, new):
    """The change if only places differ."""
    desk = only_difference(old, new)
    if abs(new[desk] - old[desk]) != 1:
        raise NotOneChange()
    return ("places", desk)


def only_difference(old, new):
    """The number of the only item that differs."""
    differing = [at for at, (first, second) in enumerate(zip(old, new)) if first != second]
    if len(differing) != 1:
        raise NotOneChange()
    return differing[0]
