"""Worlds as texts that show all of them."""

from heldbest.letters import write_letter
from heldbest.tabletexts import write_table
from heldbest.words import number_line


def world_text(world):
    """The text of the world."""
    lines = []
    for era in range(world.newest_era + 1):
        lines.extend(lines_of_era(world.gazette, era))
    homes = homes_in_order(world)
    lines.extend([line_of_house(kind, number, home.house) for kind, number, home in homes])
    for kind, number, home in homes:
        lines.append(f"disk {kind} {number}")
        lines.extend(lines_of_disk(home.disk))
    lines.extend([write_letter(letter) for letter in world.net])
    return "\n".join(lines)


def lines_of_era(gazette, era):
    """The lines of an era's number, its table and its start."""
    start = gazette.start_of_era(era)
    starts = [number_line("start", [desk, *items_of(entries)]) for desk, entries in enumerate(start)]
    return [number_line("era", [era]), write_table(gazette.table_of(era)), *starts]


def items_of(entries):
    """The seekers and amounts, one after the other."""
    return [item for entry in entries for item in entry]


def homes_in_order(world):
    """The kind, number and home of each house, first the desks, then the seekers."""
    desks = [("desk", desk, home) for desk, home in enumerate(world.desk_homes)]
    return desks + [("seeker", seeker, home) for seeker, home in enumerate(world.seeker_homes)]


def line_of_house(kind, number, house):
    """The line of a house that is up or down."""
    return f"{kind} {number} down" if house is None else " ".join(house.words())


def lines_of_disk(disk):
    """The lines of both slots of a disk, and of what is pending."""
    lines = []
    for slot in (0, 1):
        text = disk.synced(slot)
        lines.append(number_line("slot", [slot, len(text)]))
        lines.extend(lines_in(text))
    if disk.pending is None:
        return [*lines, "pending none"]
    target, fresh, text = disk.pending
    how = "fresh" if fresh else "behind"
    return [*lines, f"pending {target} {how} {len(text)}", *lines_in(text)]


def lines_in(text):
    """The lines of the text, each ended by a line feed, except perhaps the last one."""
    *lines, rest = text.split("\n")
    return lines if rest == "" else [*lines, rest]
