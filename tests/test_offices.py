import random

from heldbest.bills import bills, ledger
from heldbest.columns import columns
from heldbest.errors import (
    Down, HeldError, NoLetter, NotAtRest, NothingToRedo, NothingToUndo, OutOfRange, TooHeavy, Unread, Warm,
)
from heldbest.events import act
from heldbest.moments import held_now, lot_now, slips_now
from heldbest.offices import Office
from heldbest.serving import rest
from heldbest.slips import write_slip
from heldbest.tables import Table
from heldbest.traces import write_event
from heldbest.worlds import World
from heldbest.worldtexts import world_text
from tests.drawing import drawn_event
from tests.helping import Case, error_shown, example, shown
from tests.plainly import some_tables

SMALL = Table([1], [[1], [2]], 2)


def state(office):
    return (world_text(office.world), shown(office.world.events), office.record)


class Offices(Case):
    def office(self, *lines, table=None):
        office = Office(example() if table is None else table)
        for line in lines:
            office.tell(line)
        return office

    def stays(self, error, office, *lines):
        before = state(office)
        for line in lines:
            self.refuses(error, office.tell, line)
            self.assertEqual(state(office), before, line)


class CommandTest(Offices):
    def test_a_new_office(self):
        office = Office(table=example())
        self.assertIsInstance(office.world, World)
        self.assertEqual(world_text(office.world), world_text(World(example())))
        self.answers((), lambda: office.record)

    def test_events(self):
        events = (
            ("nudge", 1), ("copy", 0), ("bring", 0), ("lose", 0), ("sync", 0), ("post", 1), ("compact", "desk", 0),
            ("fall", "desk", 0, 0), ("rise", "desk", 0), ("tear", "seeker", 2, 3), ("turn", ("places", 1, 2), "best", ()),
            ("turn", ("row", 0, (5, 5)), "cold", ()), ("serve",),
        )
        office, world = Office(example()), World(example())
        for many, event in enumerate(events, start=1):
            self.assertEqual(shown(office.tell(text=write_event(event))), shown(("done",)))
            act(world, event)
            self.assertEqual(world_text(office.world), world_text(world))
            self.assertEqual(shown(office.world.events), shown(world.events))
            self.answers(tuple(write_event(event) for event in events[:many]), lambda: office.record)

    def test_the_world_is_changed_itself(self):
        office = Office(example())
        world = office.world
        for line in ("nudge 1", "serve", "rest", "turn same cold"):
            office.tell(line)
        self.assertIs(office.world, world)

    def test_rest(self):
        office = Office(SMALL)
        self.assertEqual(shown(office.tell("rest")), shown(("rounds 7",)))
        self.assertEqual(office.world.events, (("serve",),) * 7)
        self.assertEqual(office.tell("rest"), ("rounds 0",))
        self.assertEqual(len(office.world.events), 7)
        self.assertEqual(office.record, ("rest", "rest"))

    def test_questions(self):
        office = self.office("nudge 1", "bring 0", "sync 0", "bring 0")
        for line, answer in (
            ("slips", ("desk 0 serial 1 price 1 1:1", "desk 1 serial 0 price 0")),
            ("held", ("held -1 0 -1",)),
            ("lot", ("lot 1",)),
            ("value", ("value 3",)),
        ):
            self.answers(answer, office.tell, line)
        office.tell("rest")
        world = office.world
        self.answers(tuple(write_slip(slip) for slip in slips_now(world)), office.tell, "slips")
        self.answers(("held " + " ".join(str(desk) for desk in held_now(world)),), office.tell, "held")
        self.answers(("lot " + " ".join(str(seeker) for seeker in lot_now(world)),), office.tell, "lot")
        self.answers(("value 6",), office.tell, "value")
        self.answers(("bills 3 2",), office.tell, "bills")
        self.assertEqual(bills(world), (3, 2))
        self.answers(columns(ledger(world)), office.tell, "ledger")

    def test_questions_of_a_world_without_seekers(self):
        office = Office(Table([2], [], 1))
        head = " seeker   desk  worth   bill   gain"
        for line, answer in (
            ("slips", ("desk 0 serial 0 price 0",)), ("held", ("held",)), ("lot", ("lot",)), ("value", ("value 0",)),
            ("bills", ("bills 0",)), ("ledger", (head, " " * 14 + "      0" * 3)), ("rest", ("rounds 0",)),
        ):
            self.assertEqual(office.tell(line), answer)

    def test_the_examples(self):
        office = Office(SMALL)
        self.assertEqual(office.tell("rest"), ("rounds 7",))
        self.assertEqual((office.tell("held"), office.tell("bills")), (("held -1 0",), ("bills 1",)))
        self.assertEqual(office.tell("ledger"), (
            " seeker   desk  worth   bill   gain",
            "      0     -1      0      0      0",
            "      1      0      2      1      1",
            "                    2      1      1",
        ))

    def test_lines_that_are_unread(self):
        office = self.office("nudge 1")
        self.stays(Unread(1), office, "", " ", "x", "Rest", "rest ", " rest", "rest 0", "held\n", "slips 0", "undo 1", "redo ",
                   "\nundo", "bring", "bring x", "nudge 1 1", "nudge 1\nnudge 1", "turn same given", "done", "events")

    def test_long_lines(self):
        office = self.office("nudge 1")
        self.stays(Unread(1), office, "x" * 20000)
        self.stays(OutOfRange("text", 20001), office, "x" * 20001, "nudge 1".ljust(20001))

    def test_what_is_refused(self):
        office = self.office("nudge 1", "fall seeker 2 0")
        self.stays(NoLetter(1), office, "bring 1", "copy 1")
        self.stays(Down("seeker", 2), office, "nudge 2", "trip 2 0")
        self.stays(OutOfRange("desk", 2), office, "sync 2", "turn places 2 1 cold")
        self.stays(OutOfRange("row", 1), office, "join 0", "turn row 0 5 best")
        self.stays(NotAtRest(), office, "bills", "ledger")
        office = self.office("turn same best", "rest")
        self.stays(Warm(1), office, "bills", "ledger")
        office = Office(Table([1, 1], [[90, 0], [0, 1]], 4))
        self.stays(TooHeavy(1001), office, "rest")
        self.assertEqual([office.tell("serve") for _ in range(3)], [("done",)] * 3)
        self.stays(TooHeavy(1001), office, "rest")


class UndoTest(Offices):
    STEPS = (
        "nudge 1", "copy 0", "bring 0", "sync 0", "lose 0", "post 1", "sync 1", "nudge 2", "trip 0 5", "rise seeker 0",
        "fall desk 0 0", "stumble desk 0 0", "rest", "rest", "compact desk 0", "tear seeker 1 4", "turn same mend", "rest",
        "turn places 0 2 cold", "join 3 3", "turn row 0 1 1 best", "serve", "turn same given 1:11 -", "rest",
    )

    def test_nothing_to_undo(self):
        office = Office(example())
        self.refuses(NothingToUndo(), office.undo)
        self.stays(NothingToUndo(), office, "undo")
        self.refuses(NothingToRedo(), office.redo)
        self.stays(NothingToRedo(), office, "redo")
        office = self.office("nudge 0")
        self.stays(NothingToRedo(), office, "redo")
        office.undo()
        self.stays(NothingToUndo(), office, "undo")
        office.redo()
        self.stays(NothingToRedo(), office, "redo")

    def told(self):
        """The world text, the events and the record ahead of each step and behind the last one."""
        office = Office(Table([1, 1], example().rows, 4))
        told = [state(office)]
        for line in self.STEPS:
            office.tell(line)
            told.append(state(office))
        self.assertEqual(office.record, self.STEPS)
        return office, told

    def test_each_step_is_taken_back_and_done_again(self):
        office, told = self.told()
        for how in ("method", "command"):
            for before in told[-2::-1]:
                self.assertEqual(office.undo() if how == "method" else office.tell("undo"),
                                 None if how == "method" else ("done",))
                self.assertEqual(state(office), before)
            self.stays(NothingToUndo(), office, "undo")
            for behind in told[1:]:
                self.assertEqual(office.redo() if how == "method" else office.tell("redo"),
                                 None if how == "method" else ("done",))
                self.assertEqual(state(office), behind)
            self.stays(NothingToRedo(), office, "redo")

    def test_back_and_forth(self):
        office, told = self.told()
        at, source = len(told) - 1, random.Random(51)
        for _ in range(200):
            back = source.random() < 0.5
            if back and at > 0:
                office.undo()
                at -= 1
            elif not back and at < len(told) - 1:
                office.redo()
                at += 1
            self.assertEqual(state(office), told[at])

    def test_a_rest_of_0_rounds_is_a_step(self):
        office = self.office("rest", "rest", table=SMALL)
        self.assertEqual(office.record, ("rest", "rest"))
        office.undo()
        self.assertEqual((office.record, len(office.world.events)), (("rest",), 7))
        office.undo()
        self.assertEqual((office.record, office.world.events), ((), ()))
        office.redo()
        office.redo()
        self.assertEqual((office.record, len(office.world.events)), (("rest", "rest"), 7))

    def test_a_new_step_forgets(self):
        for step in ("nudge 2", "rest", "copy 0"):
            office = self.office("nudge 0", "nudge 1", "undo")
            office.tell(step)
            self.stays(NothingToRedo(), office, "redo")
            self.assertEqual(office.record, ("nudge 0", step))
            office.undo()
            self.assertEqual(office.record, ("nudge 0",))
            office.redo()
            self.assertEqual(office.record, ("nudge 0", step))

    def test_questions_and_refused_commands_forget_nothing(self):
        office = self.office("rest", "nudge 0", "nudge 1", "undo", "undo", table=SMALL)
        for line in ("slips", "held", "lot", "value", "bills", "ledger"):
            office.tell(line)
        self.stays(Unread(1), office, "x")
        self.stays(NoLetter(7), office, "bring 7")
        office.redo()
        office.redo()
        self.assertEqual(office.record, ("rest", "nudge 0", "nudge 1"))

    def test_what_is_taken_back_stays_as_it_was(self):
        office = self.office("nudge 0", "nudge 1")
        office.undo()
        before = state(office)
        for line in ("nudge 2", "bring 0", "serve"):
            office.tell(line)
        for _ in range(3):
            office.undo()
        self.assertEqual(state(office), before)

    def test_the_record(self):
        office, told = self.told()
        again = self.office(*office.record, table=Table([1, 1], example().rows, 4))
        self.assertEqual(state(again), state(office))

    def test_drawn_commands(self):
        source = random.Random(50)
        for table in some_tables(51, 25, desks=2, seekers=3, places=2, worth=2, most=4):
            office, behind, undone = Office(table), [state(Office(table))], []
            for _ in range(50):
                line = source.choice(("undo", "undo", "redo", "redo", "held", "rest"))
                if source.random() < 0.8:
                    line = write_event(drawn_event(source, office.world))
                before = state(office)
                try:
                    answer = office.tell(line)
                except HeldError as error:
                    self.assertEqual(state(office), before)
                    if line in ("undo", "redo"):
                        none = NothingToUndo() if line == "undo" else NothingToRedo()
                        self.assertEqual(error_shown(error), error_shown(none))
                        self.assertEqual(len(behind) - 1 if line == "undo" else len(undone), 0)
                    continue
                told = state(office)
                if line == "undo":
                    undone.append(behind.pop())
                    self.assertEqual(told, behind[-1])
                elif line == "redo":
                    behind.append(undone.pop())
                    self.assertEqual(told, behind[-1])
                elif line != "held":
                    behind, undone = behind + [told], []
                    self.assertEqual(told[2], before[2] + (line,))
                    self.assertTrue(answer == ("done",) or line == "rest")
            again = Office(table)
            for line in office.record:
                again.tell(line)
            self.assertEqual(state(again), state(office))
            if not any(line.startswith("join") for line in office.record):
                self.assertEqual(world_text(office.world), world_text(self.replayed(table, office.world.events)))

    def replayed(self, table, events):
        world = World(table)
        for event in events:
            act(world, event)
        return world

    def test_two_offices(self):
        one, two = Office(SMALL), Office(SMALL)
        one.tell("rest")
        self.assertEqual((two.record, two.world.events), ((), ()))
        world = World(SMALL)
        rest(world)
        self.assertEqual(world_text(one.world), world_text(world))
