from heldbest.desklogs import desk_head, era_record, take_record
from heldbest.seekerlogs import bid_record, seeker_head
from heldbest.tables import Table
from heldbest.worlds import World
from heldbest.worldtexts import world_text
from tests.test_events import Events, cold, do, done, given


def lines(*texts):
    return "\n".join(texts)


class WorldTextTest(Events):
    def disk(self, world, kind, number):
        """The lines of one disk."""
        told = world_text(world).split("\n")
        told = told[told.index(f"disk {kind} {number}"):len(told) - len(world.net.letters)]
        ends = [at for at, line in enumerate(told) if at > 0 and line.startswith("disk")]
        return lines(*told[:(ends + [len(told)])[0]])

    def test_a_new_world(self):
        world = World(Table([1, 2], [[4, 0]], 3))
        self.answers(lines(
            "era 0", "most 3", "places 1 2", "row 4 0", "start 0", "start 1",
            "desk 0 up 0 1 0 entries waits", "desk 1 up 0 2 0 entries waits",
            "seeker 0 up 0 idle -1 0 knows 0 0 0 0",
            "disk desk 0", "slot 0 18", "head 0 0 1 0 3759", "slot 1 0", "pending none",
            "disk desk 1", "slot 0 18", "head 0 0 2 0 3769", "slot 1 0", "pending none",
            "disk seeker 0", "slot 0 19", "head 0 0 -1 0 4338", "slot 1 0", "pending none",
        ), world_text, world=world)

    def test_a_world_without_seekers(self):
        text = lines("era 0", "most 2", "places 9", "start 0", "desk 0 up 0 9 0 entries waits",
                     "disk desk 0", "slot 0 18", desk_head(0, 0, 9, 0, ())[:-1], "slot 1 0", "pending none")
        self.answers(text, world_text, World(Table([9], [], 2)))

    def test_eras(self):
        world = done(cold(("row", 0, (9, 0))), given(((0, 30),), ((1, 20),)), ("join", (1, 1)))
        text = lines(
            "era 0", "most 4", "places 1 1", "row 4 1", "row 3 2", "row 2 2", "start 0", "start 1",
            "era 1", "most 4", "places 1 1", "row 9 0", "row 3 2", "row 2 2", "start 0", "start 1",
            "era 2", "most 4", "places 1 1", "row 9 0", "row 3 2", "row 2 2", "row 1 1", "start 0 0 30", "start 1 1 20",
            "desk 0 up 0 1 0 entries waits", "desk 1 up 0 1 0 entries waits",
            "seeker 0 up 0 idle -1 0 knows 0 0 0 0", "seeker 1 up 0 idle -1 0 knows 0 0 0 0",
            "seeker 2 up 0 idle -1 0 knows 0 0 0 0", "seeker 3 up 2 idle -1 0 knows 0 0 0 0", "disk desk 0", "")
        self.assertEqual(world_text(world)[:len(text)], text)
        self.assertEqual(self.disk(world, "seeker", 3), lines(
            "disk seeker 3", "slot 0 19", seeker_head(0, 2, None)[:-1], "slot 1 0", "pending none"))
        world = done(given(((0, 30), (1, 25)), ()), places=(2, 1), rows=((4, 1), (3, 0)))
        self.assertIn("\nstart 0 0 30 1 25\nstart 1\ndesk", world_text(world))

    def test_houses(self):
        world = done(("nudge", 1), ("bring", 0), ("sync", 0), ("bring", 0), ("nudge", 2), ("bring", 0), ("post", 0))
        told = world_text(world).split("\n")
        self.assertEqual(told[8:13], [
            "desk 0 up 0 1 1 entries 1 1 waits 2 0 1", "desk 1 up 0 1 0 entries waits",
            "seeker 0 up 0 idle -1 0 knows 0 0 0 0", "seeker 1 up 0 settled 0 1 knows 1 1 0 0",
            "seeker 2 up 0 waiting 0 1 knows 0 0 0 0"])
        do(world, ("fall", "desk", 1, 0), ("fall", "seeker", 0, 0))
        told = world_text(world).split("\n")
        self.assertEqual((told[9], told[10]), ("desk 1 down", "seeker 0 down"))

    def test_pending_text(self):
        world = done(("nudge", 1), ("bring", 0))
        head, take = desk_head(0, 0, 1, 0, ()), take_record(1, 1)
        self.assertEqual(self.disk(world, "desk", 0), lines(
            "disk desk 0", "slot 0 18", head[:-1], "slot 1 0", "pending 0 behind 14", take[:-1]))
        do(world, cold(), ("nudge", 0), ("bring", 0))
        era, more = era_record(1, 1, ()), take_record(0, 1)
        self.assertEqual(self.disk(world, "desk", 0), lines(
            "disk desk 0", "slot 0 18", head[:-1], "slot 1 0",
            f"pending 0 behind {28 + len(era)}", take[:-1], era[:-1], more[:-1]))
        world.desk_homes[1].disk.begin(1, "ab\ncd")
        self.assertEqual(self.disk(world, "desk", 1), lines(
            "disk desk 1", "slot 0 18", head[:-1], "slot 1 0", "pending 1 fresh 5", "ab", "cd"))

    def test_torn_slots(self):
        world = done(("trip", 1, 6), ("tear", "desk", 1, 4), ("tear", "desk", 0, 0))
        self.assertEqual(self.disk(world, "seeker", 1), lines(
            "disk seeker 1", "slot 0 25", "head 0 0 -1 0 4338", bid_record(0, (0, 1))[:6], "slot 1 0", "pending none"))
        head = desk_head(0, 0, 1, 0, ())[:-1]
        self.assertEqual(self.disk(world, "desk", 1), lines(
            "disk desk 1", "slot 0 18", head, "slot 1 4", "head", "pending none"))
        do(world, ("rise", "seeker", 1))
        self.assertEqual(self.disk(world, "seeker", 1), lines(
            "disk seeker 1", "slot 0 25", "head 0 0 -1 0 4338", bid_record(0, (0, 1))[:6],
            "slot 1 19", seeker_head(1, 0, None)[:-1], "pending none"))

    def test_letters(self):
        world = done(("nudge", 1), ("copy", 0), ("bring", 0), ("sync", 0), ("nudge", 0))
        told = world_text(world).split("\n")
        self.assertEqual(told[-4:], ["pending none", "bid 0 1 0 1", "told 0 0 1 1 1 1", "bid 0 0 0 1"])

    def test_the_same_trace(self):
        events = (("nudge", 1), ("bring", 0), ("fall", "desk", 0, 7), ("turn", ("same",), "best", ()), ("serve",))
        for many in range(len(events) + 1):
            one, two = done(*events[:many]), done(*events[:many])
            self.assertEqual(world_text(one), world_text(two))
            if many > 0:
                self.assertNotEqual(world_text(one), world_text(done(*events[:many - 1])))

    def test_the_text_changes_nothing(self):
        world = done(("nudge", 1), ("bring", 0), ("nudge", 2))
        before = (world_text(world), world.events)
        self.assertEqual((world_text(world), world.events), before)
