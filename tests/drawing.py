"""Drawn events, the same ones each time: most of them can be done, some are refused."""

from heldbest.worlds import desk_view, disk_view, seeker_view

WORDS = ("bring",) * 14 + ("nudge",) * 8 + ("sync",) * 6 + (
    "copy", "copy", "lose", "trip", "post", "fall", "fall", "rise", "rise", "rise", "stumble", "compact", "tear",
    "join", "turn", "serve",
)


def is_down(world, kind, number):
    return (desk_view if kind == "desk" else seeker_view)(world, number) is None


def drawn_house(source, world, down):
    """A house, rather one that is down or up as it is asked for; sometimes one that there is not."""
    homes = [("desk", number) for number in range(world.newest_table.desks)]
    homes += [("seeker", number) for number in range(world.newest_table.seekers)]
    fitting = [home for home in homes if is_down(world, *home) == down]
    if source.random() < 0.03:
        return source.choice((("desk", -1), ("desk", world.newest_table.desks), ("seeker", 99), ("house", 0)))
    return source.choice(fitting or homes)


def drawn_number(source, many):
    """A number below this one; sometimes one that is not."""
    return source.choice((-1, many)) if source.random() < 0.03 or many == 0 else source.randrange(many)


def drawn_keep(source, world, word, kind, number):
    """A number of characters, rather not too great: no record of a bid and no head is shorter than 12."""
    if source.random() < 0.05:
        return source.choice((-1, 200))
    if word == "fall":
        homes = world.desk_homes if kind == "desk" else world.seeker_homes
        pending = disk_view(world, kind, number)[2] if 0 <= number < len(homes) and kind != "house" else None
        return 0 if pending is None else source.randint(0, len(pending[2]))
    if source.random() < (0.7 if word == "stumble" else 0.3):
        return 0
    return source.choice((0, 1, 5, 12, 13, 14, 15, 18, 19, 20, 21, 22, 30))


def drawn_row(source, world):
    return [source.choice((0, 0, 1, 1, 2, 3)) for _ in range(world.newest_table.desks)]


def drawn_turn(source, world):
    table = world.newest_table
    change = source.choice((
        ("same",),
        ("row", drawn_number(source, table.seekers), drawn_row(source, world)),
        ("places", drawn_number(source, table.desks), source.randint(1, 3)),
    ))
    how = source.choice(("cold", "cold", "best", "best", "mend", "mend", "given"))
    start = [[] for _ in range(table.desks)] if how == "given" else ()
    if how == "given" and table.seekers > 0:
        desk, seeker = source.randrange(table.desks), source.randrange(table.seekers)
        start[desk].append([seeker, source.randint(0, table.scale)])
    return ("turn", change, how, start)


def drawn_event(source, world, words=WORDS):
    word = source.choice(words)
    table = world.newest_table
    if word in ("bring", "copy", "lose") and not world.net.letters and source.random() < 0.9:
        word = "nudge" if table.seekers > 0 else "sync"
    if word in ("bring", "copy", "lose"):
        letters = len(world.net.letters)
        return (word, source.choice((0, letters - 1)) if source.random() < 0.5 else drawn_number(source, letters))
    if word in ("nudge", "sync", "post"):
        return (word, drawn_number(source, table.desks if word != "nudge" else table.seekers))
    if word == "trip":
        seeker = drawn_number(source, table.seekers)
        return (word, seeker, drawn_keep(source, world, word, "seeker", seeker))
    if word == "join":
        return (word, drawn_row(source, world))
    if word == "turn":
        return drawn_turn(source, world)
    if word == "serve":
        return (word,)
    kind, number = drawn_house(source, world, word in ("rise", "stumble"))
    if word in ("fall", "stumble", "tear"):
        return (word, kind, number, drawn_keep(source, world, word, kind, number))
    return (word, kind, number)
