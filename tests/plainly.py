"""What the document says of small tables, found the plain way: by looking at everything."""

import random
from itertools import combinations

from heldbest.judging import judge
from heldbest.listings import assignments
from heldbest.plain import plain_bests
from heldbest.tables import Table


def some_tables(seed, many, desks=3, seekers=4, places=2, worth=4, most=30):
    """Tables of sizes and worths up to the named ones, the same ones each time."""
    source = random.Random(seed)
    made = []
    for _ in range(many):
        width = source.randint(1, desks)
        counts = [source.randint(1, places) for _ in range(width)]
        rows = [[source.randint(0, worth) for _ in range(width)] for _ in range(source.randint(0, seekers))]
        made.append(Table(counts, rows, source.randint(max(1, len(rows)), most)))
    return made


def every_lot(table):
    return [lot for size in range(table.seekers + 1) for lot in combinations(range(table.seekers), size)]


def rows_of(table, lot=None):
    return list(table.rows) if lot is None else [table.rows[seeker] for seeker in lot]


def without(table, seeker):
    return tuple(other for other in range(table.seekers) if other != seeker)


def value_by_loads(places, rows):
    """The best value of the rows at desks with these places, also 0 and 10: by the best value of all loads."""
    best = {(0,) * len(places): 0}
    for row in rows:
        further = dict(best)
        for loads, total in best.items():
            for desk, worth in enumerate(row):
                if worth > 0 and loads[desk] < places[desk]:
                    grown = (*loads[:desk], loads[desk] + 1, *loads[desk + 1:])
                    further[grown] = max(further.get(grown, 0), total + worth)
        best = further
    return max(best.values())


def changed_places(table, desk, more):
    return [count + more if at == desk else count for at, count in enumerate(table.places)]


def plain_value(table, lot=None):
    return value_by_loads(table.places, rows_of(table, lot))


def plain_more(table, desk, lot=None):
    """The best value with one place more at the desk, less the best value."""
    return value_by_loads(changed_places(table, desk, 1), rows_of(table, lot)) - plain_value(table, lot)


def plain_less(table, desk, lot=None):
    """The best value less the one with one place less at the desk."""
    return plain_value(table, lot) - value_by_loads(changed_places(table, desk, -1), rows_of(table, lot))


def plain_least(table, lot=None):
    return tuple(plain_more(table, desk, lot) for desk in range(table.desks))


def plain_greatest(table, lot=None):
    return tuple(plain_less(table, desk, lot) for desk in range(table.desks))


def is_plainly_accepted(table, prices, lot=None):
    return any(judge(table, held, prices, lot=lot) is None for held in assignments(table, lot))


def held_and_rows(table, lot):
    """Every best assignment of the lot, with the least and with the greatest row."""
    rows = dict.fromkeys((plain_least(table, lot), plain_greatest(table, lot)))
    return [(held, row) for held in plain_bests(table, lot) for row in rows]


def plain_strands(table, one, two):
    """The strands, straight from their description."""
    moving = [seeker for seeker in range(table.seekers) if one[seeker] != two[seeker]]
    following = {}
    for desk in range(table.desks):
        comers = sorted(seeker for seeker in moving if two[seeker] == desk)
        leavers = sorted(seeker for seeker in moving if one[seeker] == desk)
        for k in range(min(len(comers), len(leavers))):
            following[leavers[k]] = comers[k]
    behind = {leader: seeker for seeker, leader in following.items()}
    opened, closed, done = [], [], set()
    for first in moving:
        if first not in following:
            seekers = [first]
            while seekers[-1] in behind:
                seekers.append(behind[seekers[-1]])
            done.update(seekers)
            opened.append((False, tuple((seeker, one[seeker], two[seeker]) for seeker in seekers)))
    for first in moving:
        if first not in done:
            seekers = [first]
            while behind[seekers[-1]] != first:
                seekers.append(behind[seekers[-1]])
            done.update(seekers)
            closed.append((True, tuple((seeker, one[seeker], two[seeker]) for seeker in seekers)))
    return tuple(opened + closed)
