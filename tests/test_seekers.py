from itertools import permutations, product

from heldbest.choosing import choose
from heldbest.errors import OutOfRange
from heldbest.houses import House
from heldbest.seekers import SeekerHouse
from tests.helping import HUGE, Case

ROW = (4, 1)


def state(seeker):
    return (seeker.number, seeker.era, seeker.row, seeker.scale, seeker.known, seeker.state, seeker.bid)


def made(*passed, **named):
    return state(SeekerHouse(*passed, **named))


def waiting():
    """It waits with the bid (0, 30), and knows serial 4 and price 29 of desk 0."""
    seeker = SeekerHouse(2, 0, ROW, 10)
    seeker.hear(0, 4, 29, -1)
    seeker.decide()
    return seeker


def settled():
    seeker = waiting()
    seeker.hear(0, 5, 29, 30)
    return seeker


def out():
    seeker = SeekerHouse(2, 0, (0, 0), 10)
    seeker.decide()
    return seeker


def idle():
    """It is idle again, since its bid was put out."""
    seeker = waiting()
    seeker.hear(0, 7, 31, -1)
    return seeker


class Seekers(Case):
    def stays(self, error, seeker, ask, *passed):
        """The call is refused, and the seeker is as it was before."""
        before = (state(seeker), seeker.words())
        self.refuses(error, ask, *passed)
        self.assertEqual((state(seeker), seeker.words()), before)

    def has(self, seeker, word, bid):
        self.assertEqual((seeker.state, seeker.bid), (word, bid))


class SeekerTest(Seekers):
    def test_a_new_seeker(self):
        self.answers((2, 0, ROW, 10, ((0, 0), (0, 0)), "idle", None), made, 2, 0, ROW, 10)
        self.answers((2, 0, ROW, 10, ((0, 0), (0, 0)), "idle", None), made, number=2, era=0, row=ROW, scale=10)
        self.answers((2, 7, ROW, 10, ((0, 0), (0, 0)), "waiting", (1, 5)), made, 2, 7, ROW, 10, (1, 5))
        self.answers((2, 7, ROW, 10, ((0, 0), (0, 0)), "waiting", (0, 0)), made, 2, 7, ROW, 10, bid=(0, 0))
        self.answers((0, 0, ROW, 10, ((0, 0), (0, 0)), "idle", None), made, 0, 0, ROW, 10, None)

    def test_the_bounds(self):
        known = ((0, 0),) * 6
        expected = (29, 999, (99, 0, 0, 0, 0, 99), 100, known, "waiting", (5, 9999))
        self.answers(expected, made, 29, 999, [99, 0, 0, 0, 0, 99], 100, (5, 9999))
        self.answers((0, 0, (0,), 1, ((0, 0),), "idle", None), made, 0, 0, [0], 1)

    def test_kinds(self):
        self.assertEqual((SeekerHouse.KIND, SeekerHouse(0, 0, [1], 1).KIND), ("seeker", "seeker"))
        self.assertTrue(issubclass(SeekerHouse, House))
        for name in ("row", "scale", "known"):
            self.assertIsInstance(vars(SeekerHouse)[name], property)

    def test_the_constructor_refuses(self):
        for wrong in (-1, 30, HUGE, -HUGE):
            self.refuses(OutOfRange("seeker", wrong), SeekerHouse, wrong, -1, [], 0, (9, -1))
        for wrong in (-1, 1000, HUGE, -HUGE):
            self.refuses(OutOfRange("era", wrong), SeekerHouse, 0, wrong, [], 0, (9, -1))
        for length in (0, 7):
            self.refuses(OutOfRange("row", length), SeekerHouse, 0, 0, [-1] * length, 0, (9, -1))
        for wrong in (-1, 100, HUGE, -HUGE):
            self.refuses(OutOfRange("worth", wrong), SeekerHouse, 0, 0, [99, wrong], 0, (9, -1))
        for wrong in (0, -1, 101, HUGE, -HUGE):
            self.refuses(OutOfRange("scale", wrong), SeekerHouse, 0, 0, ROW, wrong, (9, -1))
        for wrong in (-1, 2, 5, HUGE, -HUGE):
            self.refuses(OutOfRange("desk", wrong), SeekerHouse, 0, 0, ROW, 10, (wrong, -1))
        for wrong in (-1, 10000, HUGE, -HUGE):
            self.refuses(OutOfRange("amount", wrong), SeekerHouse, 0, 0, ROW, 10, (1, wrong))

    def test_later_changes_have_no_effect(self):
        row, bid = [4, 1], [0, 5]
        seeker = SeekerHouse(0, 0, row, 10, bid)
        row[0] = 9
        bid[1] = 6
        self.assertEqual((seeker.row, seeker.bid), ((4, 1), (0, 5)))
        row, bid = [3], [0, 7]
        seeker.moved(1, row, 10, bid)
        row.append(2)
        bid[0] = 1
        self.assertEqual((seeker.row, seeker.bid), ((3,), (0, 7)))


class DecideTest(Seekers):
    def test_idle(self):
        seeker = SeekerHouse(2, 0, ROW, 10)
        self.answers((0, 1), seeker.decide)
        self.has(seeker, "waiting", (0, 1))
        self.assertEqual(seeker.known, ((0, 0), (0, 0)))

    def test_idle_without_anything_to_choose(self):
        seeker = SeekerHouse(2, 0, (0, 0), 10)
        self.answers(None, seeker.decide)
        self.has(seeker, "out", None)

    def test_what_is_known_counts(self):
        for known in product((0, 5, 9, 29, 30, 39, 40, 41), repeat=2):
            seeker = SeekerHouse(2, 0, ROW, 10)
            for desk, price in enumerate(known):
                seeker.hear(desk, 1, price, -1)
            expected = choose(ROW, 10, known)
            self.assertEqual(seeker.decide(), expected)
            self.has(seeker, "out" if expected is None else "waiting", expected)

    def test_the_other_states(self):
        for seeker, word, bid in ((waiting(), "waiting", (0, 30)), (settled(), "settled", (0, 30)), (out(), "out", None)):
            before = state(seeker)
            self.answers(bid, seeker.decide)
            self.has(seeker, word, bid)
            self.assertEqual(state(seeker), before)

    def test_out_stays_out(self):
        seeker = out()
        for serial in range(3):
            seeker.hear(0, serial, 0, -1)
            seeker.hear(1, serial, 0, 5)
            self.assertIsNone(seeker.decide())
            self.has(seeker, "out", None)
        seeker = SeekerHouse(2, 0, ROW, 10)
        seeker.hear(0, 5, 40, -1)
        seeker.hear(1, 5, 10, -1)
        self.assertIsNone(seeker.decide())
        seeker.hear(0, 6, 0, -1)
        self.assertIsNone(seeker.decide())
        self.has(seeker, "out", None)
        self.assertEqual(seeker.known, ((6, 0), (5, 10)))

    def test_idle_again(self):
        seeker = idle()
        self.has(seeker, "idle", None)
        self.assertEqual(seeker.decide(), (1, 1))
        seeker.hear(1, 3, 10, -1)
        self.assertEqual(seeker.decide(), (0, 32))
        seeker.hear(0, 9, 40, -1)
        self.assertIsNone(seeker.decide())
        self.has(seeker, "out", None)


class HearTest(Seekers):
    def test_its_own_amount(self):
        seeker = waiting()
        self.answers(None, seeker.hear, 0, 5, 29, 30)
        self.has(seeker, "settled", (0, 30))
        self.assertEqual(seeker.known, ((5, 29), (0, 0)))
        for price in (0, 29, 30, 31, 9999):
            seeker = waiting()
            seeker.hear(desk=0, serial=4, price=price, own=30)
            self.has(seeker, "settled", (0, 30))
            seeker.hear(0, 4, price, 30)
            self.has(seeker, "settled", (0, 30))

    def test_another_amount(self):
        for start, word in ((waiting, "waiting"), (settled, "settled")):
            for own in (0, 29, 31, 9999):
                for price in (0, 30, 31, 9999):
                    seeker = start()
                    seeker.hear(0, 6, price, own)
                    self.has(seeker, word, (0, 30))
                    self.assertEqual(seeker.known, ((6, price), (0, 0)))

    def test_no_entry(self):
        for start, word in ((waiting, "waiting"), (settled, "settled")):
            for price, expected in ((0, word), (28, word), (29, word), (30, "idle"), (31, "idle"), (9999, "idle")):
                seeker = start()
                seeker.hear(0, 6, price, -1)
                self.has(seeker, expected, None if expected == "idle" else (0, 30))
                self.assertEqual(seeker.known, ((6, price), (0, 0)))

    def test_a_bid_of_amount_zero(self):
        seeker = SeekerHouse(0, 0, ROW, 10, (0, 0))
        seeker.hear(0, 0, 0, 0)
        self.has(seeker, "settled", (0, 0))
        seeker.hear(0, 0, 0, -1)
        self.has(seeker, "idle", None)

    def test_another_desk(self):
        for start, word in ((waiting, "waiting"), (settled, "settled")):
            for price, own in product((0, 30, 31), (-1, 0, 30)):
                seeker = start()
                seeker.hear(1, 2, price, own)
                self.has(seeker, word, (0, 30))
                self.assertEqual(seeker.known[1], (2, price))

    def test_without_a_bid(self):
        for start, word in ((idle, "idle"), (out, "out")):
            for desk, price, own in product((0, 1), (0, 30, 31), (-1, 0, 30)):
                seeker = start()
                seeker.hear(desk, 9, price, own)
                self.has(seeker, word, None)
                self.assertEqual(seeker.known[desk], (9, price))

    def test_older_letters(self):
        for start in (waiting, settled, idle):
            for serial, price, own in product((0, 3), (0, 29, 30, 9999), (-1, 0, 30)):
                seeker = start()
                before = (state(seeker), seeker.words())
                self.answers(None, seeker.hear, 0, serial, price, own)
                self.assertEqual((state(seeker), seeker.words()), before)

    def test_the_same_serial(self):
        seeker = waiting()
        seeker.hear(0, 4, 28, -1)
        self.has(seeker, "waiting", (0, 30))
        self.assertEqual(seeker.known, ((4, 28), (0, 0)))
        seeker.hear(0, 4, 29, 30)
        self.has(seeker, "settled", (0, 30))
        seeker.hear(0, 4, 30, -1)
        self.has(seeker, "idle", None)
        self.assertEqual(seeker.known, ((4, 30), (0, 0)))
        new = SeekerHouse(0, 0, ROW, 10)
        new.hear(1, 0, 7, -1)
        self.assertEqual(new.known, ((0, 0), (0, 7)))

    def test_the_example(self):
        seeker = waiting()
        self.assertEqual((seeker.state, seeker.bid, seeker.known[0]), ("waiting", (0, 30), (4, 29)))
        seeker.hear(0, 7, 31, -1)
        self.has(seeker, "idle", None)
        seeker.hear(0, 5, 30, 30)
        self.has(seeker, "idle", None)
        self.assertEqual(seeker.known, ((7, 31), (0, 0)))

    def test_letters_in_every_order(self):
        for order in permutations(((5, 29, 30), (6, 30, 30), (7, 31, -1))):
            seeker = waiting()
            for serial, price, own in order:
                seeker.hear(0, serial, price, own)
            self.has(seeker, "idle", None)
            self.assertEqual(seeker.known[0], (7, 31))

    def test_the_bounds(self):
        seeker = SeekerHouse(0, 0, [1] * 6, 1)
        seeker.hear(5, 99999, 9999, 9999)
        seeker.hear(0, 0, 0, -1)
        self.assertEqual(seeker.known, ((0, 0), (0, 0), (0, 0), (0, 0), (0, 0), (99999, 9999)))

    def test_refusals(self):
        for seeker in (waiting(), settled(), idle(), out()):
            for wrong in (-1, 2, 5, HUGE, -HUGE):
                self.stays(OutOfRange("desk", wrong), seeker, seeker.hear, wrong, -1, -1, -2)
            for wrong in (-1, 100000, HUGE, -HUGE):
                self.stays(OutOfRange("serial", wrong), seeker, seeker.hear, 0, wrong, -1, -2)
            for wrong in (-1, 10000, HUGE, -HUGE):
                self.stays(OutOfRange("price", wrong), seeker, seeker.hear, 0, 99999, wrong, -2)
                self.stays(OutOfRange("price", wrong), seeker, seeker.hear, 1, 0, wrong, -2)
            for wrong in (-2, 10000, HUGE, -HUGE):
                self.stays(OutOfRange("own", wrong), seeker, seeker.hear, 0, 99999, 9999, wrong)
                self.stays(OutOfRange("own", wrong), seeker, seeker.hear, 0, 0, 0, wrong)


class LetterTest(Seekers):
    def test_letters(self):
        self.answers(("bid", 0, 2, 0, 30), waiting().letter)
        self.answers(("bid", 0, 2, 0, 30), settled().letter)
        self.answers(None, idle().letter)
        self.answers(None, out().letter)
        self.answers(("bid", 999, 29, 5, 9999), SeekerHouse(29, 999, [1] * 6, 1, (5, 9999)).letter)
        seeker = waiting()
        seeker.letter()
        self.has(seeker, "waiting", (0, 30))


class WordsTest(Seekers):
    def test_words(self):
        head = ("seeker", "2", "up", "0")
        self.answers((*head, "waiting", "0", "30", "knows", "4", "29", "0", "0"), waiting().words)
        self.answers((*head, "settled", "0", "30", "knows", "5", "29", "0", "0"), settled().words)
        self.answers((*head, "idle", "-1", "0", "knows", "7", "31", "0", "0"), idle().words)
        self.answers((*head, "out", "-1", "0", "knows", "0", "0", "0", "0"), out().words)
        self.answers(("seeker", "0", "up", "0", "idle", "-1", "0", "knows", "0", "0"), SeekerHouse(0, 0, [1], 5).words)


class MovedTest(Seekers):
    def test_moved(self):
        for start in (waiting, settled, idle, out):
            seeker = start()
            self.answers(None, seeker.moved, 3, [7], 20, None)
            self.assertEqual(state(seeker), (2, 3, (7,), 20, ((0, 0),), "idle", None))
            seeker = start()
            self.answers(None, seeker.moved, era=4, row=[7, 0, 2], scale=1, bid=(2, 9))
            self.assertEqual(state(seeker), (2, 4, (7, 0, 2), 1, ((0, 0),) * 3, "waiting", (2, 9)))

    def test_refusals(self):
        for seeker in (waiting(), out()):
            for wrong in (-1, 1000, HUGE, -HUGE):
                self.stays(OutOfRange("era", wrong), seeker, seeker.moved, wrong, [], 0, (9, -1))
            for length in (0, 7):
                self.stays(OutOfRange("row", length), seeker, seeker.moved, 1, [-1] * length, 0, (9, -1))
            for wrong in (-1, 100, HUGE, -HUGE):
                self.stays(OutOfRange("worth", wrong), seeker, seeker.moved, 1, [99, wrong], 0, (9, -1))
            for wrong in (0, -1, 101, HUGE, -HUGE):
                self.stays(OutOfRange("scale", wrong), seeker, seeker.moved, 1, [3, 4, 5], wrong, (9, -1))
            for wrong in (-1, 1, HUGE, -HUGE):
                self.stays(OutOfRange("desk", wrong), seeker, seeker.moved, 1, [3], 20, (wrong, -1))
            for wrong in (-1, 10000, HUGE, -HUGE):
                self.stays(OutOfRange("amount", wrong), seeker, seeker.moved, 1, [3], 20, (0, wrong))

    def test_two_seekers_side_by_side(self):
        one, two = waiting(), waiting()
        one.hear(0, 7, 31, -1)
        one.moved(1, [9], 3, None)
        self.assertEqual(state(two), state(waiting()))
