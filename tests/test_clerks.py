from heldbest.clerks import Clerk
from heldbest.errors import BadSlips, OutOfRange
from heldbest.events import act
from heldbest.moments import slips_now
from heldbest.serving import rest
from heldbest.slips import slips_fault
from heldbest.tables import Table
from heldbest.traces import read_event
from heldbest.worlds import World
from tests.helping import HUGE, Case, example
from tests.test_slips import COLD, GOOD, WRONG_SLIPS


def state(clerk):
    return (clerk.noted, clerk.trouble, clerk.lot, clerk.held)


class ClerkTest(Case):
    def stays(self, error, clerk, *slips):
        before = state(clerk)
        self.refuses(error, clerk.note, *slips)
        self.assertEqual(state(clerk), before)

    def test_a_clerk_without_slips(self):
        clerk = Clerk(example(), 0)
        self.answers(((None, None), ("missing", 0), None, None), state, clerk)
        self.refuses(BadSlips(("missing", 0)), clerk.worth)
        self.refuses(BadSlips(("missing", 0)), clerk.bills)
        self.assertIsNone(clerk.note())
        self.answers(((None, None), ("missing", 0), None, None), state, clerk)

    def test_eras(self):
        self.answers((None, None), lambda: Clerk(table=example(), era=999).noted)
        for wrong in (-1, 1000, HUGE, -HUGE):
            self.refuses(OutOfRange("era", wrong), Clerk, example(), wrong)

    def test_the_example(self):
        clerk = Clerk(example(), 0)
        self.assertIsNone(clerk.note(GOOD[1]))
        self.answers(((None, GOOD[1]), ("missing", 0), None, None), state, clerk)
        clerk.note(GOOD[0])
        self.answers((GOOD, None, (0, 1, 2), (0, 1, -1)), state, clerk)
        self.answers(6, clerk.worth)
        self.answers((3, 2), clerk.bills)

    def test_several_slips(self):
        for slips in (GOOD, GOOD[::-1], (*COLD, *GOOD), (GOOD[0], COLD[1], GOOD[1])):
            clerk = Clerk(example(), 0)
            self.answers(None, clerk.note, *slips)
            self.answers((GOOD, None, (0, 1, 2), (0, 1, -1)), state, clerk)

    def test_the_last_one_counts(self):
        clerk = Clerk(example(), 3)
        late = ((0, 3, 8, 31, ((0, 31),)), (1, 3, 0, 0, ()))
        clerk.note(late[0], late[1])
        self.answers((late, None, (0,), (0, -1, -1)), state, clerk)
        early = (0, 3, 2, 5, ((1, 5),))
        clerk.note(early)
        self.answers(((early, late[1]), None, (1,), (-1, 0, -1)), state, clerk)
        old = (0, 2, 0, 0, ())
        clerk.note(late[0], old)
        self.answers(((old, late[1]), ("era", 0), None, None), state, clerk)
        self.refuses(BadSlips(("era", 0)), clerk.worth)
        self.refuses(BadSlips(("era", 0)), clerk.bills)

    def test_faults(self):
        clerk = Clerk(example(), 0)
        clerk.note((0, 0, 1, 20, ((0, 20),)), (1, 0, 1, 20, ((1, 20),)))
        self.assertEqual((clerk.trouble, clerk.lot, clerk.held), (("envy", 1, 0), None, None))
        self.refuses(BadSlips(("envy", 1, 0)), clerk.worth)
        clerk.note((1, 0, 1, 20, ((0, 20),)))
        self.assertEqual((clerk.trouble, clerk.lot, clerk.held), (("twice", 0), None, None))
        self.refuses(BadSlips(("twice", 0)), clerk.bills)

    def test_what_is_refused(self):
        for noted in ((), COLD, GOOD[:1]):
            clerk = Clerk(example(), 0)
            clerk.note(*noted)
            for slip, error in WRONG_SLIPS:
                self.stays(error, clerk, slip)
                self.stays(error, clerk, GOOD[0], slip, (9, 9, 9, 9, ()))
                self.stays(error, clerk, GOOD[0], GOOD[1], slip)
            for wrong in (2, 3, 5, 6, -1, HUGE):
                self.stays(OutOfRange("desk", wrong), clerk, (wrong, -1, -1, -1, ((9, 9),)))
                self.stays(OutOfRange("desk", wrong), clerk, GOOD[0], (wrong, -1, -1, -1, ((9, 9),)))

    def test_later_changes_have_no_effect(self):
        clerk = Clerk(example(), 0)
        slip = [0, 0, 4, 31, [[0, 31]]]
        clerk.note(slip, [1, 0, 9, 20, [[1, 20]]])
        slip[2] = 5
        slip[4][0][1] = 30
        slip[4].append([1, 1])
        self.answers((GOOD, None, (0, 1, 2), (0, 1, -1)), state, clerk)

    def test_two_clerks(self):
        one, two = Clerk(example(), 0), Clerk(example(), 0)
        one.note(*GOOD)
        self.answers((None, None), lambda: two.noted)

    def test_slips_of_unlike_moments(self):
        world = World(example())
        early = slips_now(world)
        for line in ("nudge 1", "bring 0", "nudge 0", "bring 0", "sync 0", "bring 0", "bring 0", "nudge 0", "bring 0"):
            act(world, read_event(line))
        late = slips_now(world)
        self.assertEqual((early[0], late[0]), ((0, 0, 0, 0, ()), (0, 0, 2, 2, ((0, 2),))))
        rest(world)
        clerk = Clerk(example(), 0)
        clerk.note(*early)
        self.answers((0, (0, 0), ()), lambda: (clerk.worth(), clerk.bills(), clerk.lot))
        clerk.note(late[0])
        self.answers((4, (0, 0), (0,)), lambda: (clerk.worth(), clerk.bills(), clerk.lot))
        clerk.note(slips_now(world)[1])
        self.assertEqual(clerk.trouble is None, slips_fault(example(), 0, clerk.noted) is None)
        clerk.note(slips_now(world)[0])
        self.answers((6, (3, 2), (0, 1, 2)), lambda: (clerk.worth(), clerk.bills(), clerk.lot))
        clerk.note(early[1])
        self.answers((4, (3, 0), (0,)), lambda: (clerk.worth(), clerk.bills(), clerk.lot))

    def test_without_seekers(self):
        clerk = Clerk(Table([3], [], 4), 0)
        clerk.note((0, 0, 0, 0, ()))
        self.answers((((0, 0, 0, 0, ()),), None, (), ()), state, clerk)
        self.assertEqual((clerk.worth(), clerk.bills()), (0, (0,)))
