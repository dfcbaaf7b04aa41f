"""The difference of two assignments."""

from heldbest.parameters import held_of
from heldbest.seats import look_at_fit


def difference(table, one, two):
    """The strands from `one` to `two`."""
    old = held_of(table, one)
    new = held_of(table, two)
    look_at_fit(table, old)
    look_at_fit(table, new)
    return strands_between(table, old, new)


def strands_between(table, old, new):
    """The strands from `old` to `new`, whether they fit or not."""
    movers = [seeker for seeker in range(table.seekers) if old[seeker] != new[seeker]]
    followers = followers_of(table, movers, old, new)
    lines = lines_of_movers(movers, followers)
    return tuple([
        (closed, tuple([(seeker, old[seeker], new[seeker]) for seeker in line]))
        for closed, line in lines
    ])


def followers_of(table, movers, old, new):
    """For each seeker that is followed, the seeker that follows it."""
    followers = {}
    for desk in range(table.desks):
        comers = [seeker for seeker in movers if new[seeker] == desk]
        leavers = [seeker for seeker in movers if old[seeker] == desk]
        for comer, leaver in zip(comers, leavers):
            followers[comer] = leaver
    return followers


def lines_of_movers(movers, followers):
    """The tuples of `closed` and the seekers of a strand, those that are not closed first."""
    behind_others = list(followers.values())
    lines = [(False, line_from(first, followers)) for first in movers if first not in behind_others]
    placed = [seeker for _, line in lines for seeker in line]
    for first in movers:
        if first not in placed:
            line = line_from(first, followers)
            lines.append((True, line))
            placed.extend(line)
    return lines


def line_from(first, followers):
    """The first seeker and all that follow it, one after the other, until the first comes again."""
    line = [first]
    while followers.get(line[-1], first) != first:
        line.append(followers[line[-1]])
    return line
