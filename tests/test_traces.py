from heldbest.errors import BadEvent, BadStart, Down, NoLetter, OutOfRange, Unread
from heldbest.events import act
from heldbest.tables import Table
from heldbest.traces import read_event, read_trace, replay, write_event, write_trace
from heldbest.worlds import World
from heldbest.worldtexts import world_text
from tests.helping import Case, error_shown, example, shown

EVENTS = (
    (("bring", 0), "bring 0"),
    (("bring", 199), "bring 199"),
    (("copy", 3), "copy 3"),
    (("lose", 12), "lose 12"),
    (("nudge", 29), "nudge 29"),
    (("trip", 1, 14), "trip 1 14"),
    (("sync", 5), "sync 5"),
    (("post", 0), "post 0"),
    (("fall", "desk", 1, 12), "fall desk 1 12"),
    (("fall", "seeker", 2, 0), "fall seeker 2 0"),
    (("rise", "desk", 0), "rise desk 0"),
    (("rise", "seeker", 7), "rise seeker 7"),
    (("stumble", "seeker", 0, 3), "stumble seeker 0 3"),
    (("compact", "desk", 4), "compact desk 4"),
    (("tear", "seeker", 2, 18), "tear seeker 2 18"),
    (("join", (3, 0)), "join 3 0"),
    (("join", (99,)), "join 99"),
    (("serve",), "serve"),
    (("turn", ("row", 2, (5, 0)), "cold", ()), "turn row 2 5 0 cold"),
    (("turn", ("row", 2, (5,)), "best", ()), "turn row 2 5 best"),
    (("turn", ("places", 1, 2), "mend", ()), "turn places 1 2 mend"),
    (("turn", ("same",), "best", ()), "turn same best"),
    (("turn", ("same",), "given", (((0, 10), (2, 10)), ())), "turn same given 0:10,2:10 -"),
    (("turn", ("row", 0, (1, 2)), "given", ((), ())), "turn row 0 1 2 given - -"),
    (("turn", ("places", 0, 9), "given", (((29, 0),),)), "turn places 0 9 given 29:0"),
)

# What numbers say is not looked at.
STRANGE = (
    (("bring", -1), "bring -1"),
    (("nudge", 999999), "nudge 999999"),
    (("trip", -999999, -3), "trip -999999 -3"),
    (("fall", "desk", 77, -1), "fall desk 77 -1"),
    (("join", (-5, 1000, 0, 0, 0, 0, 0, 0)), "join -5 1000 0 0 0 0 0 0"),
    (("turn", ("row", -1, (100,)), "cold", ()), "turn row -1 100 cold"),
    (("turn", ("places", 9, 0), "mend", ()), "turn places 9 0 mend"),
    (("turn", ("same",), "given", (((5, -1), (5, 123456), (-3, 0)),)), "turn same given 5:-1,5:123456,-3:0"),
)

WRONG = (
    "", " ", "x", "Bring 0", "brings 0", "bring", "bring ", "bring x", "bring 0 0", "bring  0", " bring 0", "bring 0 ",
    "bring 00", "bring +0", "bring -0", "bring 1000000", "bring\t0", "bring 0\n", "bring 0\nbring 0", "\nbring 0",
    "copy", "copy desk", "lose", "lose 1 2", "nudge", "nudge 0 0", "nudge desk", "trip", "trip 0", "trip 0 0 0",
    "trip 0 x", "trip seeker 0 0", "sync", "sync desk 0", "sync 0 0", "post", "post 0 0", "post x",
    "fall", "fall desk", "fall desk 0", "fall desk 0 0 0", "fall house 0 0", "fall 0 0 0", "fall Desk 0 0", "fall 0 desk 0",
    "fall desk desk 0", "fall desk 0 desk", "rise", "rise desk", "rise desk 0 0", "rise 0", "rise 0 0", "rise desks 0",
    "stumble desk 0", "stumble desk 0 0 0", "stumble x 0 0", "compact", "compact desk", "compact desk 0 0", "compact 0",
    "tear desk 0", "tear desk 0 0 0", "tear 0 0 0", "join", "join ", "join x", "join 1 x", "join 1  2", "join desk",
    "join 1 cold", "serve 0", "serve ", "serves", "serve serve", "rest", "undo", "held", "told 0 0 0 0 0 0", "bid 0 0 0 0",
    "turn", "turn cold", "turn same", "turn same ", "turn same warm", "turn same Cold", "turn same cold 0", "turn same cold -",
    "turn same best 0:10", "turn same mend ", "turn same cold cold", "turn same 0 cold", "turn  same cold", "turn same  cold",
    "turn row cold", "turn row 0 cold", "turn row x 0 cold", "turn row 0 x cold", "turn row 0 0", "turn row 0 0 0",
    "turn 0 0 cold", "turn places cold", "turn places 0 cold", "turn places 0 0 0 cold", "turn places 0 x mend",
    "turn join 0 cold", "turn rows 0 0 cold", "turn given -", "turn best", "turn same given", "turn same given ",
    "turn same given x", "turn same given 0", "turn same given 0:", "turn same given :0", "turn same given 0:1:2",
    "turn same given 0:1,", "turn same given ,0:1", "turn same given 0:1,,0:2", "turn same given 0:01", "turn same given --",
    "turn same given -,-", "turn same given - ", "turn same given -  -", "turn same given 0:1 - x", "turn same given 0:1000000",
    "turn same given 0:1 cold", "turn same given given", "turn same given 0:+1", "turn same given 0,1",
)


class EventTest(Case):
    def test_lines(self):
        for event, line in EVENTS + STRANGE:
            self.answers(line, write_event, event)
            self.answers(event, read_event, line)
        self.answers("serve", write_event, event=("serve",))
        self.answers(("serve",), read_event, text="serve")

    def test_wrong_lines(self):
        for line in WRONG:
            self.refuses(Unread(1), read_event, line)

    def test_long_lines(self):
        line = "join" + " 10" * 6665
        self.assertEqual(len(line), 19999)
        self.answers(("join", (10,) * 6665), read_event, line)
        self.refuses(Unread(1), read_event, line + " ")
        self.refuses(OutOfRange("text", 20001), read_event, line + " 1")
        self.refuses(OutOfRange("text", 20001), read_event, "x" * 20001)


class TraceTest(Case):
    def test_the_empty_trace(self):
        self.answers("", write_trace, ())
        self.answers((), read_trace, "")

    def test_traces(self):
        events = tuple(event for event, _ in EVENTS + STRANGE)
        text = "\n".join(line for _, line in EVENTS + STRANGE)
        self.answers(text, write_trace, events)
        self.answers(events, read_trace, text)
        self.answers((("serve",),), read_trace, text="serve")
        self.answers("serve\nserve", write_trace, events=(("serve",), ("serve",)))

    def test_wrong_lines(self):
        for wrong in WRONG:
            if "\n" not in wrong:
                if wrong != "":
                    self.refuses(Unread(1), read_trace, wrong)
                self.refuses(Unread(1), read_trace, wrong + "\nserve")
                self.refuses(Unread(2), read_trace, "serve\n" + wrong)
                self.refuses(Unread(3), read_trace, "serve\nbring 0\n" + wrong + "\n\nx")
        self.refuses(Unread(1), read_trace, "\n")
        self.refuses(Unread(2), read_trace, "serve\n")
        self.refuses(Unread(1), read_trace, "\nserve")

    def test_long_texts(self):
        text = "\n".join(["serve"] * 3333)
        self.assertEqual(len(text), 19997)
        self.answers((("serve",),) * 3333, read_trace, text)
        self.refuses(Unread(3334), read_trace, text + "\n")
        self.refuses(OutOfRange("text", 20001), read_trace, text + "\nx x")
        self.refuses(OutOfRange("text", 20001), read_trace, "\n" * 20001)


class ReplayTest(Case):
    def test_replay(self):
        events = (("nudge", 1), ["bring", 0], ("turn", ["same"], "given", [[[0, 30]], [(1, 20)]]), ["nudge", 0], ("serve",))
        world = World(example())
        for event in events:
            act(world, event)
        again = replay(example(), *events)
        self.assertIsInstance(again, World)
        self.assertEqual((world_text(again), shown(again.events)), (world_text(world), shown(world.events)))
        self.answers(world_text(world), lambda *passed: world_text(replay(example(), *passed)), *events)

    def test_without_events(self):
        world = replay(example())
        self.assertEqual((world_text(world), world.events), (world_text(World(example())), ()))
        self.assertEqual(world.newest_table.rows, example().rows)

    def test_behind_joins(self):
        table = Table([1, 1], [[4, 1]], 3)
        world = World(table)
        for event in (("join", (1, 1)), ("nudge", 1), ("join", (2, 2))):
            act(world, event)
        self.assertEqual(world_text(replay(table, *world.events)), world_text(world))

    def test_a_refused_event(self):
        for at, events, cause in (
            (0, (("bring", 0), ("nudge", -1)), NoLetter(0)),
            (1, (("nudge", 0), ("bring", 1), ("bring", 5)), NoLetter(1)),
            (2, (("nudge", 0), ("fall", "seeker", 0, 0), ["nudge", 0]), Down("seeker", 0)),
            (1, (("serve",), ("turn", ("same",), "given", (((2, 99),), ()))), BadStart(("amount", 0, 2))),
        ):
            self.refuses(BadEvent(at), replay, example(), *events)
            with self.assertRaises(BadEvent) as caught:
                replay(example(), *events)
            self.assertEqual(error_shown(caught.exception.__cause__), error_shown(cause))
