from heldbest.desklogs import desk_head, era_record, take_record
from heldbest.errors import BadWord, Down, NoLetter, NotSynced, OutOfRange, Up
from heldbest.events import act
from heldbest.moments import slip_now
from heldbest.seekerlogs import bid_record, seeker_head
from heldbest.tables import Table
from heldbest.worlds import World, desk_view, disk_view, seeker_view
from heldbest.worldtexts import world_text
from tests.helping import HUGE, Case, as_lists, as_tuples, shown

ROWS = ((4, 1), (3, 2), (2, 2))
FRESH = ((0, 0), (0, 0))


def done(*events, places=(1, 1), rows=ROWS, most=4):
    """A new world in which the events were done."""
    world = World(Table(places, rows, most))
    do(world, *events)
    return world


def do(world, *events):
    for event in events:
        act(world, event)


def cold(change=("same",)):
    return ("turn", change, "cold", ())


def given(*start):
    return ("turn", ("same",), "given", start)


class Events(Case):
    def stays(self, error, world, *events):
        """Each of the events is refused, and the world is as it was before."""
        before = (world_text(world), shown(world.events))
        for event in events:
            self.refuses(error, act, world, event)
            self.assertEqual((world_text(world), shown(world.events)), before, event)


class ToldEventsTest(Events):
    def test_another_first_word(self):
        world = done(("nudge", 1))
        for wrong in ("", "Nudge", "nudges", "rest", "told", "bid", "undo"):
            self.stays(BadWord(wrong), world, (wrong,), (wrong, -1), (wrong, "desk", 0))

    def test_everything_is_a_tuple(self):
        events = (
            ("nudge", 1), ("copy", 0), ("bring", 0), ("lose", 0), ("sync", 0), ("post", 1), ("compact", "desk", 0),
            ("fall", "desk", 0, 0), ("stumble", "desk", 0, 0), ("rise", "desk", 0), ("tear", "seeker", 2, 3), ("join", (1, 2)),
            ("trip", 0, 4), ("turn", ("row", 0, (0, 0)), "cold", ()), ("turn", ("places", 1, 2), "best", ()),
            ("serve",),
        )
        for form in (as_lists, as_tuples):
            world = done()
            for many, event in enumerate(events, start=1):
                passed = form(event)
                self.assertIsNone(act(world, passed))
                self.assertEqual(shown(passed), shown(form(event)))
                self.assertEqual(shown(world.events), shown(events[:many]))
        world = done()
        passed = ["turn", ["same"], "given", [[[0, 30]], [[1, 20]]]]
        act(world, passed)
        self.assertEqual(passed, ["turn", ["same"], "given", [[[0, 30]], [[1, 20]]]])
        self.assertEqual(shown(world.events), shown((("turn", ("same",), "given", (((0, 30),), ((1, 20),))),)))

    def test_what_is_passed_is_not_kept(self):
        row, start = [1, 2], [[[0, 30]], [[1, 20]]]
        event = ["turn", ["row", 2, [2, 2]], "given", start]
        world = done()
        do(world, ["join", row], event)
        before = (world_text(world), world.events)
        row[0] = 9
        event[1][2][0] = 9
        start[0][0][1] = 31
        start.pop()
        self.assertEqual((world_text(world), world.events), before)


class LetterTest(Events):
    def test_letters_that_are_not_there(self):
        for world, wrongs in ((done(), (-1, 0, HUGE)), (done(("nudge", 1), ("nudge", 2)), (-1, 2, 3, HUGE, -HUGE))):
            for wrong in wrongs:
                self.stays(NoLetter(wrong), world, ("bring", wrong), ("copy", wrong), ("lose", wrong))

    def test_copy_and_lose(self):
        world = done(("nudge", 0), ("nudge", 1), ("copy", 0))
        bids = [("bid", 0, 0, 0, 1), ("bid", 0, 1, 0, 1), ("bid", 0, 0, 0, 1)]
        self.assertEqual(world.net.letters, tuple(bids))
        do(world, ("lose", 1))
        self.assertEqual(world.net.letters, (bids[0], bids[0]))
        do(world, ("lose", 1), ("lose", 0))
        self.assertEqual(world.net.letters, ())
        self.assertEqual(desk_view(world, 0), (0, 1, 0, (), ()))

    def test_a_full_net(self):
        world = done(("nudge", 1), *[("copy", 0)] * 199)
        self.assertEqual(len(world.net.letters), 200)
        before = world.net.letters
        do(world, ("copy", 5), ("nudge", 0))
        self.assertEqual(world.net.letters, before)
        self.assertEqual(world.events[-2:], (("copy", 5), ("nudge", 0)))
        self.assertEqual(seeker_view(world, 0), (0, "waiting", (0, 1), FRESH))
        do(world, ("post", 0), ("sync", 0))
        self.assertEqual(world.net.letters, before)
        self.assertEqual(desk_view(world, 0)[4], ())
        do(world, ("lose", 3), ("post", 0), ("sync", 0))
        self.assertEqual(world.net.letters, before[1:] + (("told", 0, 0, 0, 0, 0, -1),))

    def test_a_bid_is_brought(self):
        world = done(("nudge", 2), ("nudge", 1), ("bring", 1))
        self.assertEqual(world.net.letters, (("bid", 0, 2, 0, 1),))
        self.assertEqual(desk_view(world, 0), (0, 1, 1, ((1, 1),), (1,)))
        self.assertEqual(disk_view(world, "desk", 0)[2], (0, False, take_record(1, 1)))
        do(world, ("bring", 0))
        self.assertEqual(desk_view(world, 0), (0, 1, 1, ((1, 1),), (1, 2)))
        self.assertEqual(disk_view(world, "desk", 0)[2], (0, False, take_record(1, 1)))

    def test_a_bid_is_held(self):
        world = done(("nudge", 1), ("copy", 0), ("bring", 0), ("bring", 0))
        self.assertEqual(desk_view(world, 0), (0, 1, 1, ((1, 1),), (1,)))
        self.assertEqual(disk_view(world, "desk", 0)[2], (0, False, take_record(1, 1)))

    def test_a_told_letter_is_brought(self):
        world = done(("nudge", 1), ("bring", 0), ("sync", 0), ("bring", 0))
        self.assertEqual(seeker_view(world, 1), (0, "settled", (0, 1), ((1, 1), (0, 0))))
        do(world, ("nudge", 0), ("bring", 0), ("sync", 0), ("bring", 0))
        self.assertEqual(seeker_view(world, 0), (0, "idle", None, ((1, 1), (0, 0))))
        self.assertEqual(world.net.letters, ())

    def test_an_old_told_letter(self):
        world = done(("post", 0), ("sync", 0), ("nudge", 1), ("bring", 3), ("sync", 0), ("bring", 3))
        before = seeker_view(world, 1)
        self.assertEqual(before, (0, "settled", (0, 1), ((1, 1), (0, 0))))
        self.assertEqual(world.net.letters[1], ("told", 0, 0, 1, 0, 0, -1))
        do(world, ("bring", 1))
        self.assertEqual(seeker_view(world, 1), before)

    def test_houses_that_are_down(self):
        world = done(("nudge", 1), ("post", 1), ("sync", 1), ("fall", "desk", 0, 0), ("fall", "seeker", 0, 0))
        letters = world.net.letters
        self.assertEqual(letters[:2], (("bid", 0, 1, 0, 1), ("told", 0, 1, 0, 0, 0, -1)))
        do(world, ("bring", 0), ("bring", 0))
        self.assertEqual(world.net.letters, letters[2:])
        self.assertEqual((desk_view(world, 0), seeker_view(world, 0)), (None, None))
        do(world, ("rise", "desk", 0), ("rise", "seeker", 0))
        self.assertEqual(desk_view(world, 0), (0, 1, 0, (), ()))
        self.assertEqual(seeker_view(world, 0), (0, "idle", None, FRESH))

    def test_a_bid_of_a_newer_era(self):
        world = done(("nudge", 2), ("bring", 0), ("sync", 0), ("nudge", 0), ("bring", 1),
                     given(((0, 30),), ((1, 20),)), ("nudge", 2))
        self.assertEqual(desk_view(world, 0), (0, 1, 1, ((2, 1),), (0,)))
        self.assertEqual(world.net.letters[1], ("bid", 1, 2, 0, 1))
        do(world, ("bring", 1))
        self.assertEqual(desk_view(world, 0), (1, 1, 0, ((0, 30),), (0, 2)))
        self.assertEqual(disk_view(world, "desk", 0)[2], (0, False, era_record(1, 1, ((0, 30),))))

    def test_a_newer_bid_that_is_taken(self):
        world = done(("nudge", 0), cold(("places", 0, 2)), ("bring", 0), ("nudge", 1), ("bring", 0))
        self.assertEqual(desk_view(world, 0), (1, 2, 1, ((1, 1),), (0, 1)))
        text = take_record(0, 1) + era_record(1, 2, ()) + take_record(1, 1)
        self.assertEqual(disk_view(world, "desk", 0)[2], (0, False, text))

    def test_a_bid_that_is_older_than_the_era_to_which_the_desk_moves(self):
        world = done(cold(), ("nudge", 0), cold(), ("bring", 0))
        self.assertEqual(desk_view(world, 0), (2, 1, 0, (), (0,)))
        self.assertEqual(disk_view(world, "desk", 0)[2], (0, False, era_record(2, 1, ())))

    def test_a_bid_of_an_older_era(self):
        world = done(("nudge", 0), ("nudge", 1), ("copy", 0), cold(), ("nudge", 2), ("bring", 3), ("bring", 0), ("bring", 0),
                     ("bring", 0))
        self.assertEqual(desk_view(world, 0), (1, 1, 1, ((2, 1),), (2, 0, 1)))
        self.assertEqual(disk_view(world, "desk", 0)[2], (0, False, era_record(1, 1, ()) + take_record(2, 1)))

    def test_a_desk_does_not_move_for_a_bid_of_its_own_era(self):
        world = done(("nudge", 0), cold(), ("bring", 0))
        self.assertEqual(desk_view(world, 0), (0, 1, 1, ((0, 1),), (0,)))

    def test_a_told_letter_of_a_newer_era(self):
        world = done(given(((0, 30),), ((1, 20),)), ("nudge", 2), ("bring", 0), ("post", 0), ("sync", 0))
        self.assertEqual([letter[3] for letter in world.net.letters], [2, 0, 1])
        self.assertEqual(seeker_view(world, 0), (0, "idle", None, FRESH))
        do(world, ("bring", 1), ("bring", 1))
        self.assertEqual(seeker_view(world, 0), (1, "settled", (0, 30), ((0, 30), (0, 0))))
        self.assertEqual(seeker_view(world, 1), (1, "waiting", (1, 20), ((0, 30), (0, 0))))
        self.assertEqual(disk_view(world, "seeker", 0), (seeker_head(0, 0, None), "", None))

    def test_a_told_letter_that_is_older_than_the_era_to_which_the_seeker_moves(self):
        world = done(cold(), ("nudge", 0), ("bring", 0), ("post", 0), ("sync", 0), cold(("row", 1, (0, 7))), ("bring", 1))
        self.assertEqual(seeker_view(world, 1), (2, "idle", None, FRESH))
        self.assertEqual(world.seeker_homes[1].house.row, (0, 7))

    def test_a_told_letter_of_an_older_era(self):
        world = done(("nudge", 0), ("bring", 0), ("sync", 0), cold(), ("nudge", 0))
        before = seeker_view(world, 0)
        self.assertEqual((before, world.net.letters[0]), ((1, "waiting", (0, 1), FRESH), ("told", 0, 0, 0, 1, 1, 1)))
        do(world, ("bring", 0))
        self.assertEqual(seeker_view(world, 0), before)

    def test_a_seeker_does_not_move_for_a_letter_of_its_own_era(self):
        world = done(("nudge", 0), ("bring", 0), ("sync", 0), cold(), ("bring", 0))
        self.assertEqual(seeker_view(world, 0), (0, "settled", (0, 1), ((1, 1), (0, 0))))


class NudgeTest(Events):
    def test_seekers_that_are_not_there(self):
        world = done(("fall", "seeker", 1, 0))
        for wrong in (-1, 3, HUGE, -HUGE):
            self.stays(OutOfRange("seeker", wrong), world, ("nudge", wrong), ("trip", wrong, -1))
        self.stays(Down("seeker", 1), world, ("nudge", 1), ("trip", 1, 0), ("trip", 1, -1))

    def test_an_idle_seeker(self):
        world = done(("nudge", 1))
        self.assertEqual(seeker_view(world, 1), (0, "waiting", (0, 1), FRESH))
        self.assertEqual(world.net.letters, (("bid", 0, 1, 0, 1),))
        slots = (seeker_head(0, 0, None) + bid_record(0, (0, 1)), "", None)
        self.assertEqual(disk_view(world, "seeker", 1), slots)
        do(world, ("nudge", 1))
        self.assertEqual(world.net.letters, (("bid", 0, 1, 0, 1),) * 2)
        self.assertEqual(disk_view(world, "seeker", 1), slots)

    def test_a_settled_seeker(self):
        world = done(("nudge", 1), ("bring", 0), ("sync", 0), ("bring", 0), ("nudge", 1))
        self.assertEqual(seeker_view(world, 1)[1], "settled")
        self.assertEqual(world.net.letters, (("bid", 0, 1, 0, 1),))
        self.assertEqual(disk_view(world, "seeker", 1)[0], seeker_head(0, 0, None) + bid_record(0, (0, 1)))

    def test_a_seeker_that_is_out(self):
        world = done(("nudge", 0), ("nudge", 0), rows=((0, 0),))
        self.assertEqual(seeker_view(world, 0), (0, "out", None, FRESH))
        self.assertEqual(world.net.letters, ())
        self.assertEqual(disk_view(world, "seeker", 0), (seeker_head(0, 0, None), "", None))

    def test_an_older_era(self):
        world = done(("nudge", 0), cold(("row", 0, (0, 5))), ("lose", 0), ("nudge", 0))
        self.assertEqual(seeker_view(world, 0), (1, "waiting", (1, 1), FRESH))
        self.assertEqual(world.net.letters, (("bid", 1, 0, 1, 1),))
        text = seeker_head(0, 0, None) + bid_record(0, (0, 1)) + bid_record(1, (1, 1))
        self.assertEqual(disk_view(world, "seeker", 0), (text, "", None))

    def test_a_bid_from_the_start(self):
        world = done(given(((0, 30),), ((1, 20),)), ("nudge", 1), ("nudge", 0), ("nudge", 2))
        self.assertEqual(world.net.letters, (("bid", 1, 1, 1, 20), ("bid", 1, 0, 0, 30), ("bid", 1, 2, 0, 1)))
        self.assertEqual(seeker_view(world, 1), (1, "waiting", (1, 20), FRESH))
        self.assertEqual(disk_view(world, "seeker", 1), (seeker_head(0, 0, None), "", None))

    def test_an_entry_at_amount_0(self):
        world = done(given(((0, 0),), ()), ("nudge", 0), rows=((4, 1),))
        self.assertEqual(world.net.letters, (("bid", 1, 0, 0, 0),))
        self.assertEqual(seeker_view(world, 0), (1, "waiting", (0, 0), FRESH))


class TripTest(Events):
    def test_an_idle_seeker(self):
        record = bid_record(0, (0, 1))
        for keep in range(len(record) + 1):
            world = done(("trip", 1, keep))
            self.assertIsNone(seeker_view(world, 1))
            self.assertEqual(world.net.letters, ())
            self.assertEqual(disk_view(world, "seeker", 1), (seeker_head(0, 0, None) + record[:keep], "", None))
            do(world, ("rise", "seeker", 1))
            told = ("waiting", (0, 1)) if keep == len(record) else ("idle", None)
            self.assertEqual(seeker_view(world, 1), (0, *told, FRESH))
        world = done()
        for wrong in (-1, len(record) + 1, HUGE, -HUGE):
            self.stays(OutOfRange("keep", wrong), world, ("trip", 1, wrong))

    def test_no_record(self):
        waiting = done(("nudge", 1))
        settled = done(("nudge", 1), ("bring", 0), ("sync", 0), ("bring", 0))
        out = done(rows=((1, 1), (0, 0)))
        decided = done(("nudge", 1), rows=((1, 1), (0, 0)))
        started = done(given(((0, 30),), ((1, 20),)))
        for world in (waiting, settled, out, decided, started):
            letters, disk = world.net.letters, disk_view(world, "seeker", 1)
            for wrong in (-1, 1, 12, HUGE):
                self.stays(OutOfRange("keep", wrong), world, ("trip", 1, wrong))
            do(world, ("trip", 1, 0))
            self.assertIsNone(seeker_view(world, 1))
            self.assertEqual((world.net.letters, disk_view(world, "seeker", 1)), (letters, disk))

    def test_an_older_era(self):
        for keep in (0, 3, len(bid_record(1, (1, 1)))):
            world = done(("nudge", 0), ("lose", 0), cold(("row", 0, (0, 5))), ("trip", 0, keep))
            text = seeker_head(0, 0, None) + bid_record(0, (0, 1)) + bid_record(1, (1, 1))[:keep]
            self.assertEqual(disk_view(world, "seeker", 0), (text, "", None))
            do(world, ("rise", "seeker", 0))
            told = (0, "waiting", (0, 1), FRESH) if keep <= 3 else (1, "waiting", (1, 1), FRESH)
            self.assertEqual(seeker_view(world, 0), told)
        world = done(("nudge", 0), cold(("row", 0, (0, 5))))
        self.stays(OutOfRange("keep", 99), world, ("trip", 0, 99))


class DeskTest(Events):
    def test_desks_that_are_not_there(self):
        world = done(("fall", "desk", 1, 0))
        for wrong in (-1, 2, HUGE, -HUGE):
            self.stays(OutOfRange("desk", wrong), world, ("sync", wrong), ("post", wrong))
        self.stays(Down("desk", 1), world, ("sync", 1), ("post", 1))

    def test_sync(self):
        world = done(("nudge", 2), ("nudge", 0), ("nudge", 1), ("bring", 0), ("bring", 0), ("sync", 0))
        self.assertEqual(desk_view(world, 0), (0, 1, 1, ((2, 1),), ()))
        self.assertEqual(disk_view(world, "desk", 0), (desk_head(0, 0, 1, 0, ()) + take_record(2, 1), "", None))
        told = (("told", 0, 0, 2, 1, 1, 1), ("told", 0, 0, 0, 1, 1, -1))
        self.assertEqual(world.net.letters, (("bid", 0, 1, 0, 1), *told))
        do(world, ("sync", 0), ("sync", 1))
        self.assertEqual(world.net.letters, (("bid", 0, 1, 0, 1), *told))

    def test_sync_of_a_desk_in_an_older_era(self):
        world = done(("nudge", 2), ("bring", 0), cold(("places", 0, 3)), ("sync", 0))
        self.assertEqual(desk_view(world, 0), (0, 1, 1, ((2, 1),), ()))
        self.assertEqual(world.net.letters, (("told", 0, 0, 2, 1, 1, 1),))

    def test_who_is_put_out_is_told(self):
        world = done(("nudge", 2), ("bring", 0), ("sync", 0), ("lose", 0))
        world.seeker_homes[0].house.hear(0, 1, 1, -1)
        do(world, ("nudge", 0), ("bring", 0))
        self.assertEqual(desk_view(world, 0), (0, 1, 2, ((0, 2),), (0, 2)))
        do(world, ("sync", 0))
        self.assertEqual(world.net.letters, (("told", 0, 0, 0, 2, 2, 2), ("told", 0, 0, 2, 2, 2, -1)))

    def test_post(self):
        world = done(("nudge", 1), ("bring", 0), ("post", 0))
        self.assertEqual(desk_view(world, 0), (0, 1, 1, ((1, 1),), (1, 0, 2)))
        self.assertEqual(disk_view(world, "desk", 0)[2], (0, False, take_record(1, 1)))
        self.assertEqual(world.net.letters, ())
        do(world, ("post", 0), ("join", (1, 1)), cold(), ("post", 0))
        self.assertEqual(desk_view(world, 0), (0, 1, 1, ((1, 1),), (1, 0, 2, 3)))


class KindTest(Events):
    def test_kinds_and_numbers(self):
        world = done(("fall", "desk", 1, 0))
        for word, behind in (("fall", (-1,)), ("rise", ()), ("stumble", (-1,)), ("compact", ()), ("tear", (-1,))):
            for wrong in ("", "house", "Desk", "seekers"):
                self.stays(BadWord(wrong), world, (word, wrong, -1, *behind))
            for wrong in (-1, 2, HUGE):
                self.stays(OutOfRange("desk", wrong), world, (word, "desk", wrong, *behind))
            for wrong in (-1, 3, HUGE):
                self.stays(OutOfRange("seeker", wrong), world, (word, "seeker", wrong, *behind))

    def test_up_and_down(self):
        world = done(("fall", "desk", 1, 0), ("fall", "seeker", 2, 0), ("nudge", 0), ("bring", 0))
        for kind, up, down in (("desk", 0, 1), ("seeker", 0, 2)):
            self.stays(Down(kind, down), world, ("fall", kind, down, 0), ("fall", kind, down, -1))
            self.stays(Down(kind, down), world, ("compact", kind, down), ("tear", kind, down, 0), ("tear", kind, down, -1))
            self.stays(Up(kind, up), world, ("rise", kind, up), ("stumble", kind, up, 0), ("stumble", kind, up, -1))


class FallTest(Events):
    def test_a_desk_with_pending_text(self):
        pending = take_record(0, 1) + take_record(1, 2)
        for keep in range(len(pending) + 1):
            world = done(("nudge", 0), ("bring", 0))
            world.seeker_homes[1].house.hear(0, 0, 1, -1)
            do(world, ("nudge", 1), ("bring", 0))
            self.assertEqual(disk_view(world, "desk", 0)[2], (0, False, pending))
            self.stays(OutOfRange("keep", -1), world, ("fall", "desk", 0, -1))
            self.stays(OutOfRange("keep", len(pending) + 1), world, ("fall", "desk", 0, len(pending) + 1))
            do(world, ("fall", "desk", 0, keep))
            self.assertIsNone(desk_view(world, 0))
            text = desk_head(0, 0, 1, 0, ()) + pending[:keep]
            self.assertEqual(disk_view(world, "desk", 0), (text, "", None))
            do(world, ("rise", "desk", 0))
            whole = (keep >= len(take_record(0, 1))) + (keep == len(pending))
            entries = ((), ((0, 1),), ((1, 2),))[whole]
            self.assertEqual(desk_view(world, 0), (0, 1, whole, entries, ()))
            torn = keep not in (0, len(take_record(0, 1)), len(pending))
            head = desk_head(1, 0, 1, whole, entries) if torn else ""
            self.assertEqual(disk_view(world, "desk", 0), (text, head, None))

    def test_nothing_is_pending(self):
        for kind in ("desk", "seeker"):
            world = done()
            disk = disk_view(world, kind, 1)
            for wrong in (-1, 1, HUGE):
                self.stays(OutOfRange("keep", wrong), world, ("fall", kind, 1, wrong))
            do(world, ("fall", kind, 1, 0))
            self.assertEqual(disk_view(world, kind, 1), disk)

    def test_a_waiting_list_is_forgotten(self):
        world = done(("post", 0), ("fall", "desk", 0, 0), ("rise", "desk", 0))
        self.assertEqual(desk_view(world, 0), (0, 1, 0, (), ()))

    def test_what_a_seeker_knows_is_forgotten(self):
        world = done(("nudge", 1), ("bring", 0), ("sync", 0), ("bring", 0), ("fall", "seeker", 1, 0), ("rise", "seeker", 1))
        self.assertEqual(seeker_view(world, 1), (0, "waiting", (0, 1), FRESH))
        world = done(("nudge", 0), ("fall", "seeker", 0, 0), ("rise", "seeker", 0), ("nudge", 0), rows=((0, 0),))
        self.assertEqual(seeker_view(world, 0), (0, "out", None, FRESH))

    def test_a_seeker_rises_in_the_era_of_its_log(self):
        world = done(("nudge", 1), cold(("row", 1, (0, 9))), ("nudge", 0), ("fall", "seeker", 1, 0), ("rise", "seeker", 1))
        self.assertEqual(seeker_view(world, 1), (0, "waiting", (0, 1), FRESH))
        self.assertEqual(world.seeker_homes[1].house.row, (3, 2))
        do(world, ("nudge", 1), ("fall", "seeker", 1, 0), cold(("row", 1, (9, 9))), ("rise", "seeker", 1))
        self.assertEqual(seeker_view(world, 1), (1, "waiting", (1, 1), FRESH))
        house = world.seeker_homes[1].house
        self.assertEqual((house.row, house.scale, house.number), ((0, 9), 11, 1))

    def test_a_bid_that_was_put_out_is_in_the_log(self):
        world = done(("nudge", 1))
        world.seeker_homes[1].house.hear(0, 1, 1, -1)
        self.assertEqual(seeker_view(world, 1)[1:3], ("idle", None))
        do(world, ("fall", "seeker", 1, 0), ("rise", "seeker", 1))
        self.assertEqual(seeker_view(world, 1)[1:3], ("waiting", (0, 1)))

    def test_a_desk_rises_in_the_era_of_its_log(self):
        world = done(("nudge", 0), ("bring", 0), ("sync", 0), cold(("places", 0, 2)), ("fall", "desk", 0, 0), ("rise", "desk", 0))
        self.assertEqual(desk_view(world, 0), (0, 1, 1, ((0, 1),), ()))
        self.assertEqual(slip_now(world, 0), (0, 1, 0, 0, ()))
        do(world, ("nudge", 2), ("bring", 1))
        self.assertEqual(desk_view(world, 0), (1, 2, 1, ((2, 1),), (2,)))
        era = len(era_record(1, 2, ()))
        do(world, ("fall", "desk", 0, era), ("rise", "desk", 0))
        self.assertEqual(desk_view(world, 0), (1, 2, 0, (), ()))


class TornTest(Events):
    def torn(self):
        """A world in which desk 0 and seeker 1 are down and the texts of their current slots are torn."""
        world = done(("nudge", 0), ("bring", 0), ("sync", 0), ("nudge", 1), ("lose", 0), ("lose", 0))
        world.seeker_homes[1].house.hear(0, 1, 1, -1)
        do(world, ("trip", 1, 5), ("compact", "desk", 0))
        do(world, cold(), ("nudge", 2), ("bring", 0), ("fall", "desk", 0, 3))
        return world

    def test_a_rise(self):
        world = self.torn()
        old, current, _ = disk_view(world, "desk", 0)
        self.assertEqual(current, desk_head(1, 0, 1, 1, ((0, 1),)) + "era")
        do(world, ("rise", "desk", 0))
        self.assertEqual(disk_view(world, "desk", 0), (desk_head(2, 0, 1, 1, ((0, 1),)), current, None))
        self.assertEqual(desk_view(world, 0), (0, 1, 1, ((0, 1),), ()))
        self.assertNotEqual(old, disk_view(world, "desk", 0)[0])
        text = seeker_head(0, 0, None) + bid_record(0, (0, 1))
        self.assertEqual(disk_view(world, "seeker", 1), (text + bid_record(0, (0, 2))[:5], "", None))
        do(world, ("rise", "seeker", 1))
        head = seeker_head(1, 0, (0, 1))
        self.assertEqual(disk_view(world, "seeker", 1), (text + bid_record(0, (0, 2))[:5], head, None))
        self.assertEqual(seeker_view(world, 1), (0, "waiting", (0, 1), FRESH))

    def test_stumbles(self):
        heads = (("desk", 0, desk_head(2, 0, 1, 1, ((0, 1),))), ("seeker", 1, seeker_head(1, 0, (0, 1))))
        for kind, number, head in heads:
            slot = 0 if kind == "desk" else 1
            for wrong in (-1, len(head) + 1, HUGE, -HUGE):
                self.stays(OutOfRange("keep", wrong), self.torn(), ("stumble", kind, number, wrong))
            for keep in range(len(head) + 1):
                world = self.torn()
                slots = list(disk_view(world, kind, number)[:2])
                do(world, ("stumble", kind, number, keep))
                slots[slot] = head[:keep]
                self.assertEqual(disk_view(world, kind, number), (*slots, None))
                self.stays(Down(kind, number), world, ("fall", kind, number, 0))
                if keep == len(head):
                    self.stays(OutOfRange("keep", 1), world, ("stumble", kind, number, 1))
                    do(world, ("stumble", kind, number, 0))
                else:
                    do(world, ("stumble", kind, number, 1))
                    slots[slot] = head[:1]
                self.assertEqual(disk_view(world, kind, number)[:2], (slots[0], slots[1]))
                do(world, ("rise", kind, number))
                slots[slot] = head
                self.assertEqual(disk_view(world, kind, number), (*slots, None))
        self.assertEqual(desk_view(self.torn(), 0), None)

    def test_a_stumble_of_a_slot_that_is_not_torn(self):
        world = done(("fall", "desk", 0, 0), ("fall", "seeker", 0, 0))
        for kind in ("desk", "seeker"):
            disk = disk_view(world, kind, 0)
            for wrong in (-1, 1, 5, HUGE):
                self.stays(OutOfRange("keep", wrong), world, ("stumble", kind, 0, wrong))
            do(world, ("stumble", kind, 0, 0))
            self.assertEqual(disk_view(world, kind, 0), disk)
            self.stays(Down(kind, 0), world, ("fall", kind, 0, 0))


class CompactTest(Events):
    def test_compact(self):
        world = done(("nudge", 0), ("bring", 0), ("sync", 0), ("compact", "desk", 0), ("compact", "seeker", 0))
        old = desk_head(0, 0, 1, 0, ()) + take_record(0, 1)
        self.assertEqual(disk_view(world, "desk", 0), (old, desk_head(1, 0, 1, 1, ((0, 1),)), None))
        old = seeker_head(0, 0, None) + bid_record(0, (0, 1))
        self.assertEqual(disk_view(world, "seeker", 0), (old, seeker_head(1, 0, (0, 1)), None))
        self.assertEqual(desk_view(world, 0), (0, 1, 1, ((0, 1),), ()))
        self.assertEqual(seeker_view(world, 0), (0, "waiting", (0, 1), FRESH))
        do(world, ("compact", "desk", 0), ("compact", "desk", 1))
        heads = (desk_head(2, 0, 1, 1, ((0, 1),)), desk_head(1, 0, 1, 1, ((0, 1),)))
        self.assertEqual(disk_view(world, "desk", 0), (*heads, None))
        self.assertEqual(disk_view(world, "desk", 1), (desk_head(0, 0, 1, 0, ()), desk_head(1, 0, 1, 0, ()), None))

    def test_what_a_seeker_remembers_is_written(self):
        world = done(("nudge", 0), cold(), ("nudge", 0), ("lose", 0), ("lose", 0))
        world.seeker_homes[0].house.hear(0, 1, 1, -1)
        do(world, ("compact", "seeker", 0))
        self.assertEqual(disk_view(world, "seeker", 0)[1], seeker_head(1, 1, None))
        world = done(given(((0, 30),), ((1, 20),)), ("nudge", 0), ("compact", "seeker", 0))
        self.assertEqual(disk_view(world, "seeker", 0)[1], seeker_head(1, 1, (0, 30)))

    def test_houses_in_an_older_era(self):
        head = desk_head(1, 0, 1, 1, ((0, 1),))
        world = done(("nudge", 0), ("bring", 0), ("sync", 0), cold(("places", 0, 2)), ("compact", "desk", 0))
        self.assertEqual(disk_view(world, "desk", 0)[1:], (head, None))
        self.assertEqual(desk_view(world, 0), (0, 1, 1, ((0, 1),), ()))
        do(world, ("compact", "seeker", 0), ("tear", "seeker", 0, 5), ("tear", "desk", 0, 0))
        self.assertEqual(disk_view(world, "seeker", 0), ("head ", seeker_head(1, 0, (0, 1)), None))
        self.assertEqual(disk_view(world, "desk", 0), ("", head, None))

    def test_down_is_told_ahead_of_what_is_pending(self):
        world = done(("fall", "desk", 0, 0))
        world.desk_homes[0].disk.add(0, "x")
        self.stays(Down("desk", 0), world, ("compact", "desk", 0), ("tear", "desk", 0, 0), ("tear", "desk", 0, -1))

    def test_records_are_added_to_the_current_slot(self):
        world = done(("compact", "desk", 0), ("compact", "seeker", 0), ("nudge", 0), ("bring", 0))
        self.assertEqual(disk_view(world, "desk", 0)[2], (1, False, take_record(0, 1)))
        head = seeker_head(0, 0, None)
        self.assertEqual(disk_view(world, "seeker", 0), (head, seeker_head(1, 0, None) + bid_record(0, (0, 1)), None))

    def test_something_is_pending(self):
        world = done(("nudge", 0), ("bring", 0))
        world.seeker_homes[1].disk.add(0, "x")
        for kind, number in (("desk", 0), ("seeker", 1)):
            events = [("compact", kind, number), *[("tear", kind, number, keep) for keep in (-1, 0, 99)]]
            self.stays(NotSynced(kind, number), world, *events)

    def test_tears(self):
        state = (0, 1, 1, ((0, 1),), ())
        for kind, head in (("desk", desk_head(1, 0, 1, 1, ((0, 1),))), ("seeker", seeker_head(1, 0, (0, 1)))):
            for keep in range(len(head) + 1):
                world = done(("nudge", 0), ("bring", 0), ("sync", 0))
                old = disk_view(world, kind, 0)[0]
                for wrong in (-1, len(head) + 1, HUGE):
                    self.stays(OutOfRange("keep", wrong), world, ("tear", kind, 0, wrong))
                do(world, ("tear", kind, 0, keep))
                self.assertEqual(disk_view(world, kind, 0), (old, head[:keep], None))
                self.stays(Down(kind, 0), world, ("tear", kind, 0, 0))
                self.assertEqual(slip_now(world, 0), (0, 0, 1, 1, ((0, 1),)))
                do(world, ("rise", kind, 0))
                self.assertEqual(disk_view(world, kind, 0), (old, head[:keep], None))
                self.assertEqual(desk_view(world, 0), state)
                self.assertEqual(seeker_view(world, 0), (0, "waiting", (0, 1), FRESH))

    def test_a_tear_behind_a_move(self):
        world = done(given(((0, 30),), ((1, 20),)), ("nudge", 0))
        head = seeker_head(1, 1, (0, 30))
        for keep in (len(head) - 1, len(head)):
            told = done(*world.events, ("tear", "seeker", 0, keep), ("rise", "seeker", 0))
            whole = keep == len(head)
            self.assertEqual(seeker_view(told, 0), (1, "waiting", (0, 30), FRESH) if whole else (0, "idle", None, FRESH))


class JoinTest(Events):
    def test_join(self):
        world = done(cold(), ("nudge", 0), cold(), ("join", [7, 8]))
        self.assertEqual(world.newest_table.rows, (*ROWS, (7, 8)))
        self.assertEqual((world.newest_era, world.gazette.table_of(1).rows), (2, ROWS))
        self.assertEqual(seeker_view(world, 3), (2, "idle", None, FRESH))
        self.assertEqual(disk_view(world, "seeker", 3), (seeker_head(0, 2, None), "", None))
        house = world.seeker_homes[3].house
        self.assertEqual((house.number, house.row, house.scale), (3, (7, 8), 11))
        do(world, ("nudge", 3))
        self.assertEqual(world.net.letters[-1], ("bid", 2, 3, 1, 1))

    def test_the_others_stay(self):
        world = done(("nudge", 0), ("bring", 0))
        before = (desk_view(world, 0), seeker_view(world, 0), slip_now(world, 0))
        do(world, ("join", (9, 9)))
        self.assertEqual((desk_view(world, 0), seeker_view(world, 0), slip_now(world, 0)), before)

    def test_a_warm_start_stays(self):
        world = done(given(((0, 30),), ((1, 20),)), ("join", (1, 1)))
        self.assertEqual(world.gazette.start_of_era(1), (((0, 30),), ((1, 20),)))
        self.assertEqual(slip_now(world, 1), (1, 1, 0, 20, ((1, 20),)))

    def test_up_to_most(self):
        world = done(("join", (0, 0)))
        self.stays(OutOfRange("seekers", 5), world, ("join", (0, 0)))
        self.stays(OutOfRange("worth", 100), world, ("join", (0, 100)))
        for length in (0, 1, 3):
            self.stays(OutOfRange("row", length), world, ("join", (100,) * length))
        self.stays(OutOfRange("worth", -1), world, ("join", (-1, 100)))
        self.assertEqual(world.newest_table.seekers, 4)
        self.assertEqual(seeker_view(world, 3), (0, "idle", None, FRESH))

    def test_a_world_without_seekers(self):
        world = done(("join", (2, 0)), ("nudge", 0), rows=(), most=1)
        self.assertEqual(world.net.letters, (("bid", 0, 0, 0, 1),))
        self.stays(OutOfRange("seekers", 2), world, ("join", (2, 0)))
