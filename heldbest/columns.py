"""Lines of the ledger in columns."""

WIDTH = 7
NAMES = ("seeker", "desk", "worth", "bill", "gain")


def columns(lines):
    """The names of the columns, the lines, and the sums of worths, bills and gains."""
    told = [side_by_side(NAMES)]
    told.extend([side_by_side(line) for line in lines])
    sums = [sum([line[at] for line in lines]) for at in (2, 3, 4)]
    told.append(side_by_side(["", "", *sums]))
    return tuple(told)


def side_by_side(items):
    """The items, each at the right of its column."""
    return "".join([str(item).rjust(WIDTH) for item in items])
