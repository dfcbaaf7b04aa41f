import random

from heldbest.errors import HeldError, NoLetter, NotAtRest, NothingToRedo, NothingToUndo, OutOfRange, Unread
from heldbest.offices import Office
from heldbest.trials import Trial, told_together
from heldbest.traces import write_event
from tests.drawing import drawn_event
from tests.helping import Case, error_shown, shown
from tests.plainly import some_tables
from tests.test_offices import SMALL, state


class OtherError(Exception):
    pass


def office_of(*lines, table=SMALL):
    office = Office(table)
    for line in lines:
        office.tell(line)
    return office


def whole_state(office):
    """All that the office tells, also behind each undo and each redo; the office is left as it was."""
    told, undone, redone = [state(office)], 0, 0
    while office.record:
        office.undo()
        undone += 1
        told.append(state(office))
    for _ in range(undone):
        office.redo()
    told.append(state(office))
    while can_redo(office):
        redone += 1
        told.append(state(office))
    for _ in range(redone):
        office.undo()
    return told


def can_redo(office):
    try:
        office.redo()
    except NothingToRedo:
        return False
    return True


class TrialTest(Case):
    def test_a_block_that_ends_well(self):
        office = office_of("nudge 0", "nudge 1", "undo")
        world = office.world
        with Trial(office) as inside:
            self.assertIs(inside, office)
            inside.tell("bring 0")
            inside.tell("rest")
        self.assertIs(office.world, world)
        self.assertEqual(office.record, ("nudge 0", "bring 0", "rest"))
        self.assertEqual(state(office), state(office_of("nudge 0", "bring 0", "rest")))
        office.undo()
        self.assertEqual(state(office), state(office_of("nudge 0", "bring 0")))

    def test_a_block_without_commands(self):
        office = office_of("nudge 0", "nudge 1", "undo")
        before = whole_state(office)
        with Trial(office):
            pass
        self.assertEqual(whole_state(office), before)

    def test_blocks_that_end_by_errors(self):
        for error in (NotAtRest(), Unread(3), OtherError("x"), KeyError("x"), KeyboardInterrupt(), SystemExit(1)):
            for lines in ((), ("nudge 1",), ("bring 0", "rest"), ("undo",), ("redo",), ("undo", "serve"),
                          ("undo", "undo", "nudge 1", "rest"), ("redo", "undo", "undo", "redo")):
                office = office_of("nudge 0", "bring 0", "nudge 0", "serve", "undo")
                before = whole_state(office)
                with self.assertRaises(error.__class__) as caught:
                    with Trial(office) as inside:
                        for line in lines:
                            inside.tell(line)
                        raise error
                self.assertIs(caught.exception, error)
                self.assertEqual(whole_state(office), before, (error, lines))

    def test_a_refused_command_ends_the_block(self):
        office = office_of("nudge 0")
        before = whole_state(office)
        with self.assertRaises(NoLetter) as caught:
            with Trial(office) as inside:
                inside.tell("bring 0")
                inside.tell("bring 0")
        self.assertEqual(caught.exception.at, 0)
        self.assertEqual(whole_state(office), before)

    def test_a_refused_command_that_is_caught_inside(self):
        office = office_of("nudge 0")
        with Trial(office) as inside:
            inside.tell("bring 0")
            with self.assertRaises(NoLetter):
                inside.tell("bring 0")
        self.assertEqual(office.record, ("nudge 0", "bring 0"))

    def test_the_office_behind_an_error_goes_on(self):
        office = office_of("nudge 0", "nudge 1", "undo")
        with self.assertRaises(OtherError):
            with Trial(office) as inside:
                inside.undo()
                inside.tell("serve")
                raise OtherError()
        office.redo()
        office.tell("rest")
        self.assertEqual(state(office), state(office_of("nudge 0", "nudge 1", "rest")))
        for _ in range(3):
            office.undo()
        self.assertEqual(state(office), state(office_of()))

    def test_trials_in_trials(self):
        for inner in (False, True):
            for outer in (False, True):
                office = office_of("nudge 0")
                before = whole_state(office)
                try:
                    with Trial(office) as one:
                        one.tell("nudge 1")
                        try:
                            with Trial(one) as two:
                                two.undo()
                                two.undo()
                                two.tell("serve")
                                if inner:
                                    raise OtherError()
                        except OtherError:
                            self.assertTrue(inner)
                            self.assertEqual(state(office), state(office_of("nudge 0", "nudge 1")))
                        one.tell("bring 0" if inner else "serve")
                        if outer:
                            raise OtherError()
                except OtherError:
                    self.assertTrue(outer)
                    self.assertEqual(whole_state(office), before)
                else:
                    lines = ("nudge 0", "nudge 1", "bring 0") if inner else ("serve", "serve")
                    self.assertEqual(whole_state(office), whole_state(office_of(*lines)))

    def test_one_error_through_two_trials(self):
        office = office_of("nudge 0", "undo")
        before = whole_state(office)
        with self.assertRaises(OtherError):
            with Trial(office) as one:
                one.tell("nudge 1")
                with Trial(one) as two:
                    two.tell("rest")
                    raise OtherError()
        self.assertEqual(whole_state(office), before)


class ToldTogetherTest(Case):
    def test_without_lines(self):
        office = office_of("nudge 0", "undo")
        before = whole_state(office)
        self.assertEqual(shown(told_together(office)), shown(()))
        self.assertEqual(whole_state(office), before)

    def test_all_are_done(self):
        office = office_of()
        told = told_together(office, "nudge 1", "held", "bring 0", "undo", "redo", "slips", "rest", "bills")
        expected = (("done",), ("held -1 -1",), ("done",), ("done",), ("done",), ("desk 0 serial 1 price 1 1:1",),
                    ("rounds 8",), ("bills 1",))
        self.assertEqual(shown(told), shown(expected))
        self.assertEqual(office.record, ("nudge 1", "bring 0", "rest"))
        self.assertEqual(whole_state(office), whole_state(office_of("nudge 1", "bring 0", "rest")))

    def test_undo_and_redo(self):
        office = office_of("nudge 0", "nudge 1", "undo")
        self.assertEqual(told_together(office, "redo", "undo", "undo"), (("done",),) * 3)
        office.redo()
        office.redo()
        self.assertEqual(office.record, ("nudge 0", "nudge 1"))

    def test_a_refused_line_at_each_place(self):
        lines = ("nudge 1", "undo", "redo", "held", "bring 0", "undo", "rest")
        for wrong, error in (("x", Unread(1)), ("bring 9", NoLetter(9)), ("", Unread(1)), ("sync 1", OutOfRange("desk", 1)),
                             ("x" * 20001, OutOfRange("text", 20001))):
            for at in range(len(lines) + 1):
                office = office_of("nudge 0", "bring 0", "undo")
                before = whole_state(office)
                self.refuses(error, told_together, office, *lines[:at], wrong, *lines[at:])
                self.assertEqual(whole_state(office), before)

    def test_undo_and_redo_that_are_refused(self):
        office = office_of("nudge 0", "nudge 1", "undo")
        before = whole_state(office)
        self.refuses(NothingToUndo(), told_together, office, "undo", "undo")
        self.refuses(NothingToRedo(), told_together, office, "redo", "redo")
        self.refuses(NothingToRedo(), told_together, office, "nudge 1", "redo")
        self.refuses(NotAtRest(), told_together, office, "redo", "ledger")
        self.assertEqual(whole_state(office), before)

    def test_each_line_is_looked_at_when_it_is_told(self):
        office = office_of()
        self.refuses(NoLetter(0), told_together, office, "bring 0", "x")
        self.assertEqual(office.record, ())

    def test_inside_of_a_trial(self):
        office = office_of("nudge 0")
        with Trial(office) as inside:
            inside.tell("nudge 1")
            with self.assertRaises(NoLetter):
                told_together(inside, "bring 0", "undo", "undo", "bring 5")
            told_together(inside, "bring 1", "rest")
        self.assertEqual(office.record, ("nudge 0", "nudge 1", "bring 1", "rest"))

    def test_drawn_lines(self):
        source = random.Random(53)
        for table in some_tables(53, 20, desks=2, seekers=3, places=2, worth=2, most=4):
            office, plain = Office(table), Office(table)
            for _ in range(12):
                lines = [source.choice(("undo", "redo", "rest", "held"))]
                lines += [write_event(drawn_event(source, office.world)) for _ in range(source.randint(0, 3))]
                source.shuffle(lines)
                before = whole_state(office)
                try:
                    told = told_together(office, *lines)
                except HeldError as error:
                    self.assertEqual(whole_state(office), before)
                    with self.assertRaises(error.__class__) as caught:
                        with Trial(plain):
                            for line in lines:
                                plain.tell(line)
                    self.assertEqual(error_shown(caught.exception), error_shown(error))
                else:
                    self.assertEqual(told, tuple([plain.tell(line) for line in lines]))
                self.assertEqual(whole_state(office), whole_state(plain))
