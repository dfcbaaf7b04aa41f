import random

from heldbest.disks import Disk
from heldbest.errors import Busy, OutOfRange
from tests.helping import HUGE, Case


def state(disk):
    return (disk.synced(0), disk.synced(1), disk.pending)


class DiskTest(Case):
    def stays(self, error, disk, ask, *passed, **named):
        before = state(disk)
        self.refuses(error, ask, *passed, **named)
        self.assertEqual(state(disk), before)

    def test_a_new_disk(self):
        disk = Disk()
        self.answers(("", "", None), state, disk)
        self.answers("", disk.synced, slot=1)

    def test_holding(self):
        self.assertEqual(state(Disk.holding("ab", "c\n")), ("ab", "c\n", None))
        self.assertEqual(state(Disk.holding("", "")), ("", "", None))
        self.assertEqual(state(Disk.holding(first="", second="x")), ("", "x", None))
        long = "x" * 20000
        self.assertEqual(state(Disk.holding(long, long)), (long, long, None))
        self.refuses(OutOfRange("text", 20001), Disk.holding, long + "y", "")
        self.refuses(OutOfRange("text", 20001), Disk.holding, "", long + "y")
        self.refuses(OutOfRange("text", 20001), Disk.holding, long + "y", long + "yz")
        self.assertIsInstance(Disk.holding("", ""), Disk)

    def test_add_and_sync(self):
        for slot in (0, 1):
            disk = Disk.holding("old", "old")
            self.assertIsNone(disk.add(slot, "one"))
            self.answers((slot, False, "one"), lambda: disk.pending)
            self.assertEqual(disk.synced(slot), "old")
            disk.add(slot=slot, text="\ntwo")
            self.assertEqual(disk.pending, (slot, False, "one\ntwo"))
            self.assertIsNone(disk.sync())
            self.assertEqual((disk.synced(slot), disk.synced(1 - slot), disk.pending), ("oldone\ntwo", "old", None))

    def test_begin_and_sync(self):
        for slot in (0, 1):
            disk = Disk.holding("old", "old")
            self.assertIsNone(disk.begin(slot=slot, text="new"))
            self.answers((slot, True, "new"), lambda: disk.pending)
            self.assertEqual((disk.synced(0), disk.synced(1)), ("old", "old"))
            disk.add(slot, "er")
            self.answers((slot, True, "newer"), lambda: disk.pending)
            disk.sync()
            self.assertEqual((disk.synced(slot), disk.synced(1 - slot), disk.pending), ("newer", "old", None))

    def test_sync_of_nothing(self):
        disk = Disk.holding("a", "b")
        self.assertIsNone(disk.sync())
        self.assertEqual(state(disk), ("a", "b", None))
        self.assertIsNone(disk.cut(0))
        self.assertEqual(state(disk), ("a", "b", None))
        for wrong in (-1, 1, HUGE):
            self.stays(OutOfRange("keep", wrong), disk, disk.cut, wrong)

    def test_cuts(self):
        for slot in (0, 1):
            for keep in range(7):
                disk = Disk.holding("old", "old")
                disk.add(slot, "abc")
                disk.add(slot, "def")
                self.assertIsNone(disk.cut(keep=keep))
                self.assertEqual((disk.synced(slot), disk.synced(1 - slot)), ("old" + "abcdef"[:keep], "old"))
                self.assertIsNone(disk.pending)
                disk = Disk.holding("old", "old")
                disk.begin(slot, "abc")
                disk.add(slot, "def")
                disk.cut(keep)
                self.assertEqual((disk.synced(slot), disk.synced(1 - slot)), ("abcdef"[:keep], "old"))
                self.assertIsNone(disk.pending)

    def test_keep_is_refused(self):
        for fresh in (True, False):
            disk = Disk.holding("old", "old")
            (disk.begin if fresh else disk.add)(1, "abc")
            for wrong in (-1, 4, HUGE, -HUGE):
                self.stays(OutOfRange("keep", wrong), disk, disk.cut, wrong)

    def test_busy(self):
        for slot in (0, 1):
            disk = Disk.holding("old", "old")
            disk.add(slot, "a")
            self.stays(Busy(slot), disk, disk.add, 1 - slot, "b")
            self.stays(Busy(slot), disk, disk.begin, 1 - slot, "b")
            self.stays(Busy(slot), disk, disk.begin, slot, "b")
            disk = Disk.holding("old", "old")
            disk.begin(slot, "a")
            self.stays(Busy(slot), disk, disk.add, 1 - slot, "b")
            self.stays(Busy(slot), disk, disk.begin, 1 - slot, "b")
            self.stays(Busy(slot), disk, disk.begin, slot, "b")
            disk.cut(0)
            disk.begin(1 - slot, "b")
            self.assertEqual(disk.pending, (1 - slot, True, "b"))

    def test_slots_are_refused(self):
        disk = Disk.holding("old", "old")
        disk.add(0, "a")
        for wrong in (-1, 2, HUGE, -HUGE):
            self.stays(OutOfRange("slot", wrong), disk, disk.add, wrong, "")
            self.stays(OutOfRange("slot", wrong), disk, disk.begin, wrong, "")
            self.stays(OutOfRange("slot", wrong), disk, disk.synced, wrong)

    def test_lengths(self):
        for many in (1, 2000):
            disk = Disk()
            disk.add(0, "x" * many)
            disk.add(0, "y" * many)
            self.assertEqual(disk.pending, (0, False, "x" * many + "y" * many))
            disk = Disk()
            disk.begin(0, "x" * many)
            self.assertEqual(disk.pending, (0, True, "x" * many))
        for many in (0, 2001, 20001):
            for disk in (Disk(), Disk.holding("old", "old")):
                self.stays(OutOfRange("text", many), disk, disk.add, 0, "x" * many)
                self.stays(OutOfRange("text", many), disk, disk.begin, 1, "x" * many)
                disk.add(1, "a")
                self.stays(OutOfRange("text", many), disk, disk.add, 0, "x" * many)
                self.stays(OutOfRange("text", many), disk, disk.begin, 0, "x" * many)

    def test_texts_may_grow_long(self):
        disk = Disk.holding("", "z" * 20000)
        for _ in range(15):
            disk.add(1, "x" * 2000)
        disk.sync()
        self.assertEqual(disk.synced(1), "z" * 20000 + "x" * 30000)

    def test_two_disks(self):
        one, two = Disk(), Disk()
        one.add(0, "a")
        one.sync()
        one.begin(1, "b")
        self.assertEqual((state(one), state(two)), (("a", "", (1, True, "b")), ("", "", None)))


class DrawnDiskTest(Case):
    """Calls in any order, beside a plain list of slots and pending pieces."""

    def told(self, slots, pieces, fresh, keep):
        if pieces:
            text = "".join(text for _, text in pieces)[:keep]
            slot = pieces[0][0]
            slots[slot] = text if fresh else slots[slot] + text

    def test_drawn_calls(self):
        source = random.Random(31)
        for _ in range(200):
            disk, slots, pieces, fresh = Disk.holding("a", "b"), ["a", "b"], [], False
            for step in range(12):
                slot, text = source.randrange(2), "xyz"[:source.randint(1, 3)] + str(step)
                word = source.choice(("add", "add", "begin", "sync", "cut"))
                length = sum(len(text) for _, text in pieces)
                if word == "add" and pieces and pieces[0][0] != slot or word == "begin" and pieces:
                    self.refuses(Busy(pieces[0][0]), getattr(disk, word), slot, text)
                elif word in ("add", "begin"):
                    fresh = word == "begin" if not pieces else fresh
                    pieces = pieces + [(slot, text)]
                    getattr(disk, word)(slot, text)
                else:
                    keep = length if word == "sync" else source.randint(0, length)
                    disk.sync() if word == "sync" else disk.cut(keep)
                    self.told(slots, pieces, fresh, keep)
                    pieces = []
                pending = (pieces[0][0], fresh, "".join(text for _, text in pieces)) if pieces else None
                self.assertEqual(state(disk), (*slots, pending))
