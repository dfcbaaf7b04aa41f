from heldbest.errors import OutOfRange
from heldbest.records import write_record
from heldbest.seekerlogs import bid_record, seeker_head, seeker_state
from tests.helping import HUGE, Case

HEAD = seeker_head(3, 7, (2, 9))
NONE = seeker_head(4, 8, None)


class WritingTest(Case):
    def test_heads(self):
        self.answers("head 0 0 -1 0 4338\n", seeker_head, 0, 0, None)
        self.answers(write_record("head 3 7 2 9".split()), seeker_head, 3, 7, (2, 9))
        self.answers(write_record("head 0 0 0 0".split()), seeker_head, generation=0, era=0, bid=(0, 0))
        self.answers(write_record("head 99999 999 5 9999".split()), seeker_head, 99999, 999, (5, 9999))

    def test_bids(self):
        self.answers(write_record("bid 0 0 0".split()), bid_record, 0, (0, 0))
        self.answers(write_record("bid 999 5 9999".split()), bid_record, era=999, bid=(5, 9999))

    def test_what_is_refused(self):
        for bid in ((-1, -1), (6, 10000), None):
            for wrong in (-1, 100000, HUGE, -HUGE):
                self.refuses(OutOfRange("generation", wrong), seeker_head, wrong, -1, bid)
            for wrong in (-1, 1000, HUGE, -HUGE):
                self.refuses(OutOfRange("era", wrong), seeker_head, 0, wrong, bid)
                self.refuses(OutOfRange("era", wrong), bid_record, wrong, bid)
        for wrong in (-1, 6, HUGE, -HUGE):
            self.refuses(OutOfRange("desk", wrong), seeker_head, 0, 0, (wrong, -1))
            self.refuses(OutOfRange("desk", wrong), bid_record, 0, (wrong, -1))
        for wrong in (-1, 10000, HUGE, -HUGE):
            self.refuses(OutOfRange("amount", wrong), seeker_head, 0, 0, (0, wrong))
            self.refuses(OutOfRange("amount", wrong), bid_record, 0, (0, wrong))


class StateTest(Case):
    def test_a_head_alone(self):
        self.answers((3, 7, (2, 9)), seeker_state, HEAD)
        self.answers((4, 8, None), seeker_state, text=NONE)
        self.answers((0, 0, (0, 0)), seeker_state, seeker_head(0, 0, (0, 0)))
        self.answers((99999, 999, (5, 9999)), seeker_state, seeker_head(99999, 999, (5, 9999)))

    def test_bids(self):
        self.answers((3, 7, (0, 1)), seeker_state, HEAD + bid_record(7, (0, 1)))
        self.answers((4, 8, (0, 0)), seeker_state, NONE + bid_record(8, (0, 0)))
        text = NONE + bid_record(8, (5, 1)) + bid_record(9, (0, 1)) + bid_record(12, (1, 9999))
        self.answers((4, 12, (1, 9999)), seeker_state, text)

    def test_slots_that_are_not_good(self):
        for text in ("", "\n", HEAD[:-1], "x" + HEAD, " " + HEAD, "\n" + HEAD, "head 0 0 -1 0 4339\n"):
            self.answers(None, seeker_state, text)
        self.answers(None, seeker_state, bid_record(1, (1, 1)))
        self.answers(None, seeker_state, bid_record(1, (1, 1)) + HEAD)

    def test_torn_texts(self):
        one, two = bid_record(7, (0, 12)), bid_record(8, (1, 3))
        for keep in range(len(one + two) + 1):
            state = (3, 7, (2, 9))
            if keep >= len(one):
                state = (3, 7, (0, 12))
            if keep == len(one + two):
                state = (3, 8, (1, 3))
            self.answers(state, seeker_state, HEAD + (one + two)[:keep])
        for keep in range(len(NONE)):
            self.answers(None, seeker_state, NONE[:keep])

    def test_long_texts(self):
        text = HEAD + bid_record(7, (0, 1)) * 1331
        self.answers((3, 7, (0, 1)), seeker_state, text.ljust(20000))
        self.refuses(OutOfRange("text", 20001), seeker_state, text.ljust(20001))
        self.refuses(OutOfRange("text", 20001), seeker_state, " " * 20001)
