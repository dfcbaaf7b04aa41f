import random

from heldbest.desklogs import desk_head, desk_state, era_record, take_record
from heldbest.desks import DeskHouse
from heldbest.errors import OutOfRange
from heldbest.records import write_record
from tests.helping import HUGE, Case
from tests.test_desks import NINE, TEN, TWO, WRONG_ENTRIES

HEAD = desk_head(3, 7, 2, 5, TWO)


class WritingTest(Case):
    def test_heads(self):
        self.answers("head 0 0 1 0 3759\n", desk_head, 0, 0, 1, 0, [])
        self.answers(write_record("head 3 7 2 5 1 4 2 9".split()), desk_head, 3, 7, 2, 5, TWO)
        self.answers(write_record("head 3 7 3 5 1 4 2 9".split()), desk_head, 3, 7, places=3, serial=5, entries=TWO)
        words = ["head", "99999", "999", "9", "99999", *[str(item) for entry in NINE for item in entry]]
        self.answers(write_record(words), desk_head, 99999, 999, 9, 99999, NINE)

    def test_takes(self):
        self.answers("take 1 1 2105\n", take_record, 1, 1)
        self.answers(write_record(["take", "0", "0"]), take_record, 0, 0)
        self.answers(write_record(["take", "29", "9999"]), take_record, seeker=29, amount=9999)

    def test_eras(self):
        self.answers(write_record("era 1 2".split()), era_record, 1, 2, [])
        self.answers(write_record("era 999 2 1 4 2 9".split()), era_record, era=999, places=2, entries=TWO)
        words = ["era", "0", "9", *[str(item) for entry in NINE for item in entry]]
        self.answers(write_record(words), era_record, 0, 9, NINE)

    def test_heads_are_refused(self):
        for wrong in (-1, 100000, HUGE, -HUGE):
            self.refuses(OutOfRange("generation", wrong), desk_head, wrong, -1, 0, -1, TEN)
            self.refuses(OutOfRange("serial", wrong), desk_head, 0, 0, 1, wrong, TEN)
        for wrong in (-1, 1000, HUGE, -HUGE):
            self.refuses(OutOfRange("era", wrong), desk_head, 0, wrong, 0, -1, TEN)
        for wrong in (0, -1, 10, HUGE, -HUGE):
            self.refuses(OutOfRange("places", wrong), desk_head, 0, 0, wrong, -1, TEN)
        for entries, error in WRONG_ENTRIES:
            self.refuses(error, desk_head, 0, 0, 2, 0, entries)
        self.refuses(OutOfRange("entries", 2), desk_head, 0, 0, 1, 0, TWO)

    def test_takes_are_refused(self):
        for wrong in (-1, 30, HUGE, -HUGE):
            self.refuses(OutOfRange("seeker", wrong), take_record, wrong, -1)
        for wrong in (-1, 10000, HUGE, -HUGE):
            self.refuses(OutOfRange("amount", wrong), take_record, 0, wrong)

    def test_eras_are_refused(self):
        for wrong in (-1, 1000, HUGE, -HUGE):
            self.refuses(OutOfRange("era", wrong), era_record, wrong, 0, TEN)
        for wrong in (0, -1, 10, HUGE, -HUGE):
            self.refuses(OutOfRange("places", wrong), era_record, 0, wrong, TEN)
        for entries, error in WRONG_ENTRIES:
            self.refuses(error, era_record, 0, 2, entries)


class StateTest(Case):
    def test_a_head_alone(self):
        self.answers((3, 7, 2, 5, TWO), desk_state, HEAD)
        self.answers((0, 0, 1, 0, ()), desk_state, text="head 0 0 1 0 3759\n")
        self.answers((99999, 999, 9, 99999, NINE), desk_state, desk_head(99999, 999, 9, 99999, NINE))

    def test_takes_of_each_outcome(self):
        self.answers((3, 7, 2, 6, ((2, 9), (3, 5))), desk_state, HEAD + take_record(3, 5))
        self.answers((3, 7, 2, 5, TWO), desk_state, HEAD + take_record(3, 4))
        self.answers((3, 7, 2, 5, TWO), desk_state, HEAD + take_record(1, 8))
        text = HEAD + take_record(3, 4) + take_record(3, 5) + take_record(3, 50) + take_record(1, 5) + take_record(1, 6)
        self.answers((3, 7, 2, 7, ((1, 6), (2, 9))), desk_state, text)

    def test_the_greatest_serial(self):
        text = desk_head(0, 0, 1, 99998, ()) + take_record(3, 5)
        self.answers((0, 0, 1, 99999, ((3, 5),)), desk_state, text)
        self.answers((0, 0, 1, 99999, ((3, 5),)), desk_state, text + take_record(4, 6))

    def test_a_new_era(self):
        text = HEAD + take_record(3, 5) + era_record(8, 1, ((4, 4),))
        self.answers((3, 8, 1, 0, ((4, 4),)), desk_state, text)
        self.answers((3, 8, 1, 1, ((3, 5),)), desk_state, text + take_record(3, 5))
        self.answers((3, 9, 3, 0, ()), desk_state, text + take_record(3, 5) + era_record(9, 3, ()))
        self.answers((3, 9, 3, 1, ((3, 1),)), desk_state, text + era_record(9, 3, ()) + take_record(3, 1))

    def test_slots_that_are_not_good(self):
        for text in ("", "\n", HEAD[:-1], "x" + HEAD, " " + HEAD, "\n" + HEAD, "head 0 0 1 0 3758\n"):
            self.answers(None, desk_state, text)
        self.answers(None, desk_state, take_record(1, 1))
        self.answers(None, desk_state, take_record(1, 1) + HEAD)
        self.answers(None, desk_state, era_record(0, 1, ()) + HEAD)

    def test_torn_texts(self):
        further = take_record(3, 5) + era_record(8, 2, ((4, 4),)) + take_record(3, 5)
        ends = (0, len(take_record(3, 5)), len(further) - len(take_record(3, 5)), len(further))
        states = ((3, 7, 2, 5, TWO), (3, 7, 2, 6, ((2, 9), (3, 5))), (3, 8, 2, 0, ((4, 4),)),
                  (3, 8, 2, 1, ((3, 5), (4, 4))))
        for keep in range(len(further) + 1):
            whole = [state for end, state in zip(ends, states) if end <= keep]
            self.answers(whole[-1], desk_state, HEAD + further[:keep])
        for keep in range(len(HEAD)):
            self.answers(None, desk_state, HEAD[:keep])

    def test_long_texts(self):
        text = HEAD + take_record(3, 4) * 1424
        self.answers((3, 7, 2, 5, TWO), desk_state, text.ljust(20000))
        self.refuses(OutOfRange("text", 20001), desk_state, text.ljust(20001))
        self.refuses(OutOfRange("text", 20001), desk_state, " " * 20001)

    def test_drawn_runs(self):
        source = random.Random(33)
        for _ in range(60):
            places = source.randint(1, 3)
            desk = DeskHouse(0, 0, places)
            text = desk_head(source.randint(0, 9), 0, places, 0, ())
            generation = desk_state(text)[0]
            for _ in range(30):
                seeker, amount = source.randrange(5), source.randrange(12)
                if source.random() < 0.05:
                    places, entries = source.randint(1, 3), ((4, amount),)
                    desk.moved(desk.era + 1, places, entries)
                    text += era_record(desk.era, places, entries)
                elif desk.take(seeker, amount) == "taken":
                    text += take_record(seeker, amount)
                self.assertEqual(desk_state(text), (generation, desk.era, desk.places, desk.serial, desk.entries))
