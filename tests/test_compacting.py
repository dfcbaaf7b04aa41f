import random

from heldbest.compacting import compact, current_slot, new_head, state_on
from heldbest.desklogs import desk_head, era_record, take_record
from heldbest.desks import DeskHouse
from heldbest.disks import Disk
from heldbest.errors import BadWord, NotSynced
from heldbest.records import read_records
from heldbest.seekerlogs import bid_record, seeker_head
from heldbest.seekers import SeekerHouse
from tests.helping import Case

TWO = ((1, 4), (2, 9))


def state(disk):
    return (disk.synced(0), disk.synced(1), disk.pending)


def desk_text(generation):
    return desk_head(generation, 7, 2, 5, TWO)


def seeker_text(generation):
    return seeker_head(generation, 7, (0, 9))


class CurrentSlotTest(Case):
    def test_no_good_slot(self):
        for kind, text in (("desk", take_record(1, 1)), ("seeker", bid_record(0, (0, 1)))):
            for disk in (Disk(), Disk.holding(text, ""), Disk.holding("x", desk_text(0)[:-1]), Disk.holding("\n", text)):
                self.assertEqual(current_slot(kind, disk), -1)
                self.assertIsNone(state_on(kind, disk))

    def test_one_good_slot(self):
        for kind, text, told in (("desk", desk_text(4), (4, 7, 2, 5, TWO)), ("seeker", seeker_text(4), (4, 7, (0, 9)))):
            for other in ("", "x", text[:-1], "\n" + text, take_record(1, 1) + text):
                self.assertEqual(current_slot(kind, Disk.holding(text, other)), 0)
                self.assertEqual(current_slot(kind, Disk.holding(other, text)), 1)
                self.answers(told, state_on, kind, Disk.holding(text, other))
                self.answers(told, state_on, kind, Disk.holding(other, text))

    def test_two_good_slots(self):
        for kind, written in (("desk", desk_text), ("seeker", seeker_text)):
            for less, more in ((0, 1), (1, 2), (8, 9), (9, 10), (99, 100), (0, 99999), (99998, 99999)):
                self.assertEqual(current_slot(kind, Disk.holding(written(less), written(more))), 1)
                self.assertEqual(current_slot(kind, Disk.holding(written(more), written(less))), 0)
                self.assertEqual(state_on(kind, Disk.holding(written(less), written(more)))[0], more)
                self.assertEqual(state_on(kind, Disk.holding(written(more), written(less)))[0], more)

    def test_later_records_do_not_count(self):
        disk = Disk.holding(desk_text(3) + era_record(999, 2, ()) * 3, desk_text(4) + "torn")
        self.assertEqual(current_slot(kind="desk", disk=disk), 1)
        self.answers((4, 7, 2, 5, TWO), state_on, kind="desk", disk=disk)
        disk = Disk.holding(seeker_text(5) + bid_record(8, (1, 2)) + "torn", seeker_text(4) + bid_record(9, (1, 3)))
        self.answers((5, 8, (1, 2)), state_on, "seeker", disk)

    def test_pending_text_does_not_count(self):
        disk = Disk.holding(desk_text(0), "")
        disk.begin(1, desk_text(1))
        self.assertEqual(current_slot("desk", disk), 0)
        disk.sync()
        self.assertEqual(current_slot("desk", disk), 1)
        disk.add(1, take_record(5, 6))
        self.answers((1, 7, 2, 5, TWO), state_on, "desk", disk)
        disk = Disk.holding("", "")
        disk.begin(1, seeker_text(1))
        self.assertEqual(current_slot("seeker", disk), -1)
        self.assertIsNone(state_on("seeker", disk))

    def test_slots_of_any_length(self):
        disk = Disk.holding(desk_text(0), "")
        for _ in range(20):
            disk.add(0, take_record(3, 4) * 100)
        disk.add(0, take_record(3, 5))
        disk.sync()
        self.assertGreater(len(disk.synced(0)), 20000)
        self.assertEqual(current_slot("desk", disk), 0)
        self.answers((0, 7, 2, 6, ((2, 9), (3, 5))), state_on, "desk", disk)
        disk = Disk.holding("", seeker_text(0))
        for _ in range(20):
            disk.add(1, bid_record(7, (3, 4)) * 100)
        disk.add(1, bid_record(7, (3, 5)))
        disk.sync()
        self.assertGreater(len(disk.synced(1)), 20000)
        self.answers((0, 7, (3, 5)), state_on, "seeker", disk)


class NewHeadTest(Case):
    def test_desks(self):
        house = DeskHouse(3, 8, 3, TWO, serial=6)
        self.answers(desk_head(1, 8, 3, 6, TWO), new_head, "desk", house, Disk.holding(desk_text(0), ""))
        disk = Disk.holding(desk_text(9), desk_text(10) + "torn")
        disk.add(1, "more")
        self.answers(desk_head(11, 8, 3, 6, TWO), new_head, kind="desk", house=house, disk=disk)
        self.assertEqual(state(disk), (desk_text(9), desk_text(10) + "torn", (1, False, "more")))
        house = DeskHouse(0, 0, 1)
        self.answers(desk_head(99999, 0, 1, 0, ()), new_head, "desk", house, Disk.holding("", desk_text(99998)))

    def test_seekers(self):
        house = SeekerHouse(4, 8, (1, 2), 10, (1, 6))
        self.answers(seeker_head(1, 8, (1, 6)), new_head, "seeker", house, Disk.holding(seeker_text(0), ""))
        disk = Disk.holding(seeker_text(10), seeker_text(9))
        self.answers(seeker_head(11, 8, (1, 6)), new_head, "seeker", house, disk)
        house = SeekerHouse(4, 8, (1, 2), 10)
        self.answers(seeker_head(99999, 8, None), new_head, "seeker", house, Disk.holding("", seeker_text(99998)))

    def test_what_the_house_remembers_is_written(self):
        house = DeskHouse(0, 0, 1)
        house.take(3, 1)
        house.wait(5)
        self.answers(desk_head(1, 0, 1, 1, ((3, 1),)), new_head, "desk", house, Disk.holding(desk_text(0), ""))
        house = SeekerHouse(0, 0, (1, 0), 8)
        house.decide()
        self.answers(seeker_head(1, 0, (0, 1)), new_head, "seeker", house, Disk.holding(seeker_text(0), ""))
        house.hear(0, 5, 8, -1)
        house.decide()
        self.assertEqual(house.state, "out")
        self.answers(seeker_head(1, 0, None), new_head, "seeker", house, Disk.holding(seeker_text(0), ""))


class CompactTest(Case):
    def test_from_slot_to_slot(self):
        house = DeskHouse(2, 7, 2, TWO, serial=5)
        disk = Disk.holding(desk_text(0), "")
        texts = [desk_text(0), ""]
        for generation in range(1, 12):
            slot = generation % 2
            texts[slot] = desk_head(generation, 7, 2, house.serial, house.entries)
            self.assertIsNone(compact("desk", house, disk))
            self.assertEqual(state(disk), (*texts, None))
            self.assertEqual(current_slot("desk", disk), slot)
            self.answers((generation, 7, 2, house.serial, house.entries), state_on, "desk", disk)
            house.take(generation % 3, 10 + generation)
            disk.add(slot, take_record(generation % 3, 10 + generation))
            disk.sync()
            texts[slot] += take_record(generation % 3, 10 + generation)

    def test_seekers(self):
        house = SeekerHouse(2, 7, (9, 9), 10, (0, 9))
        disk = Disk.holding("torn", seeker_text(3))
        compact(kind="seeker", house=house, disk=disk)
        self.assertEqual(state(disk), (seeker_text(4), seeker_text(3), None))
        compact("seeker", house, disk)
        self.assertEqual(state(disk), (seeker_text(4), seeker_text(5), None))

    def test_torn_slots(self):
        house = DeskHouse(2, 7, 2, TWO, serial=5)
        for torn in ("t", "take 1", take_record(3, 5)[:-1]):
            disk = Disk.holding(desk_text(1)[:9], desk_text(0) + torn)
            compact("desk", house, disk)
            self.assertEqual(state(disk), (desk_text(1), desk_text(0) + torn, None))
            self.assertFalse(read_records(disk.synced(current_slot("desk", disk)))[1])

    def test_the_house_stays(self):
        house = DeskHouse(2, 7, 2, TWO, serial=5)
        house.wait(4)
        words = house.words()
        compact("desk", house, Disk.holding(desk_text(0), ""))
        self.assertEqual(house.words(), words)

    def test_not_synced(self):
        desk, seeker = DeskHouse(2, 7, 2, TWO, serial=5), SeekerHouse(4, 7, (9, 9), 10, (0, 9))
        for kind, house, text in (("desk", desk, desk_text(0)), ("seeker", seeker, seeker_text(0))):
            for fresh in (True, False):
                disk = Disk.holding(text, "")
                (disk.begin if fresh else disk.add)(1, "a")
                before = state(disk)
                self.refuses(NotSynced(kind, house.number), compact, kind, house, disk)
                self.refuses(BadWord("house"), compact, "house", house, disk)
                self.assertEqual(state(disk), before)

    def test_other_kinds(self):
        house, disk = DeskHouse(2, 7, 2), Disk.holding(desk_text(0), "")
        for wrong in ("", "Desk", "desks", "house", "desk ", "seeker\n"):
            self.refuses(BadWord(wrong), current_slot, wrong, disk)
            self.refuses(BadWord(wrong), state_on, wrong, disk)
            self.refuses(BadWord(wrong), new_head, wrong, house, disk)
            self.refuses(BadWord(wrong), compact, wrong, house, disk)
            self.refuses(BadWord(wrong), current_slot, wrong, Disk())
        self.assertEqual(state(disk), (desk_text(0), "", None))


class CutTest(Case):
    """Runs of takes and bids with cuts anywhere."""

    def test_a_compaction_that_is_cut(self):
        house = DeskHouse(2, 7, 2, TWO, serial=5)
        told = (7, 2, 5, TWO)
        for torn in ("", "take 1"):
            disk = Disk.holding(desk_text(3) + "old", desk_text(4) + torn)
            head = new_head("desk", house, disk)
            for keep in range(len(head) + 1):
                disk = Disk.holding(desk_text(3) + "old", desk_text(4) + torn)
                disk.begin(0, head)
                disk.cut(keep)
                self.assertEqual(current_slot("desk", disk), 0 if keep == len(head) else 1)
                self.assertEqual(state_on("desk", disk)[1:], told)
                compact("desk", house, disk)
                self.assertEqual(state_on("desk", disk)[1:], told)

    def test_drawn_runs_of_a_desk(self):
        source = random.Random(35)
        for _ in range(60):
            places = source.randint(1, 2)
            disk = Disk.holding(desk_head(0, 0, places, 0, ()), "")
            house = DeskHouse(0, 0, places)
            synced = state_on("desk", disk)
            for step in range(25):
                slot = current_slot("desk", disk)
                seeker, amount = source.randrange(4), step + source.randrange(3)
                if house.take(seeker, amount) == "taken":
                    disk.add(slot, take_record(seeker, amount))
                chance = source.random()
                if chance < 0.3:
                    disk.sync()
                    synced = state_on("desk", disk)
                    self.assertEqual(synced[1:], (0, places, house.serial, house.entries))
                    if chance < 0.1:
                        compact("desk", house, disk)
                        self.assertEqual(state_on("desk", disk)[1:], synced[1:])
                elif chance < 0.5:
                    disk.cut(source.randint(0, 0 if disk.pending is None else len(disk.pending[2])))
                    generation, era, places, serial, entries = state_on("desk", disk)
                    self.assertTrue(synced[3] <= serial <= house.serial)
                    house = DeskHouse(0, era, places, entries, serial=serial)
                    if read_records(disk.synced(slot))[1]:
                        compact("desk", house, disk)
                    self.assertEqual(state_on("desk", disk)[1:], (era, places, serial, entries))
                    self.assertFalse(read_records(disk.synced(current_slot("desk", disk)))[1])

    def test_drawn_runs_of_a_seeker(self):
        source = random.Random(36)
        for _ in range(60):
            disk = Disk.holding(seeker_head(0, 0, None), "")
            bids = [(0, None)]
            for step in range(25):
                bid = (source.randrange(3), source.randrange(100))
                record = bid_record(step, bid)
                disk.add(current_slot("seeker", disk), record)
                keep = source.choice((len(record), source.randint(0, len(record))))
                disk.cut(keep)
                if keep == len(record):
                    bids.append((step, bid))
                self.assertEqual(state_on("seeker", disk)[1:], bids[-1])
                if read_records(disk.synced(current_slot("seeker", disk)))[1]:
                    era, own = bids[-1]
                    compact("seeker", SeekerHouse(0, era, (1, 1, 1), 10, own), disk)
                    self.assertEqual(state_on("seeker", disk)[1:], bids[-1])
