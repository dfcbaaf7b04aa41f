import random

from heldbest.desks import DeskHouse
from heldbest.entries import take
from heldbest.errors import OutOfRange
from heldbest.houses import House
from heldbest.limits import MOST_SERIAL
from tests.helping import HUGE, Case

TWO = ((1, 4), (2, 9))
NINE = tuple((seeker, 50 - seeker) for seeker in range(9))
TEN = tuple((seeker, 50 - seeker) for seeker in range(10))

WRONG_ENTRIES = (
    ([(-1, -1)] * 10, OutOfRange("entries", 10)),
    (TEN, OutOfRange("entries", 10)),
    ([(0, 5), (30, -1)], OutOfRange("seeker", 30)),
    ([(-1, 5)], OutOfRange("seeker", -1)),
    ([(3, 5), (3, 6)], OutOfRange("seeker", 3)),
    ([(3, 5), (2, 6)], OutOfRange("seeker", 2)),
    ([(3, 10000), (2, 6)], OutOfRange("amount", 10000)),
    ([(3, -1)], OutOfRange("amount", -1)),
    ([(3, 1), (4, HUGE)], OutOfRange("amount", HUGE)),
    ([(3, 1), (4, 1), (5, 1)], OutOfRange("entries", 3)),
    (NINE, OutOfRange("entries", 9)),
)


def state(desk):
    return (desk.number, desk.era, desk.places, desk.serial, desk.entries, desk.price, desk.waits, desk.words())


def made(*passed, **named):
    return state(DeskHouse(*passed, **named))


class Desks(Case):
    def stays(self, error, desk, ask, *passed):
        """The call is refused, and the desk is as it was before."""
        before = state(desk)
        self.refuses(error, ask, *passed)
        self.assertEqual(state(desk), before)


class DeskTest(Desks):
    def test_a_new_desk(self):
        words = ("desk", "3", "up", "0", "2", "0", "entries", "waits")
        self.answers((3, 0, 2, 0, (), 0, (), words), made, 3, 0, 2)
        self.answers((3, 0, 2, 0, (), 0, (), words), made, number=3, era=0, places=2, serial=0, entries=())
        words = ("desk", "0", "up", "7", "2", "12", "entries", "1", "4", "2", "9", "waits")
        self.answers((0, 7, 2, 12, TWO, 4, (), words), made, 0, 7, 2, TWO, serial=12)
        self.assertEqual(made(0, 7, 3, TWO)[4:6], (TWO, 0))

    def test_the_bounds(self):
        self.assertEqual(made(5, 999, 9, NINE, serial=99999)[:6], (5, 999, 9, 99999, NINE, 42))
        self.assertEqual(made(0, 0, 1, [(29, 9999)])[:6], (0, 0, 1, 0, ((29, 9999),), 9999))
        self.assertEqual(made(0, 0, 1, [(0, 0)])[:6], (0, 0, 1, 0, ((0, 0),), 0))

    def test_kinds(self):
        self.assertEqual((House.KIND, DeskHouse.KIND, DeskHouse(0, 0, 1).KIND), ("house", "desk", "desk"))
        self.assertTrue(issubclass(DeskHouse, House))
        for name in ("entries", "price", "waits"):
            self.assertIsInstance(vars(DeskHouse)[name], property)

    def test_the_constructor_refuses(self):
        for wrong in (-1, 6, HUGE, -HUGE):
            self.refuses(OutOfRange("desk", wrong), DeskHouse, wrong, -1, 0, TEN, serial=-1)
        for wrong in (-1, 1000, HUGE, -HUGE):
            self.refuses(OutOfRange("era", wrong), DeskHouse, 0, wrong, 0, TEN, serial=-1)
        for wrong in (0, -1, 10, HUGE, -HUGE):
            self.refuses(OutOfRange("places", wrong), DeskHouse, 0, 0, wrong, TEN, serial=-1)
        for entries, error in WRONG_ENTRIES:
            self.refuses(error, DeskHouse, 0, 0, 2, entries, serial=-1)
        for wrong in (-1, 100000, HUGE, -HUGE):
            self.refuses(OutOfRange("serial", wrong), DeskHouse, 0, 0, 2, TWO, serial=wrong)
            self.refuses(OutOfRange("serial", wrong), DeskHouse, 0, 0, 2, serial=wrong)

    def test_later_changes_have_no_effect(self):
        entries = [[1, 4], [2, 9]]
        desk = DeskHouse(0, 0, 2, entries)
        entries[0][1] = 7
        entries.pop()
        self.assertEqual(desk.entries, TWO)
        entries = [[5, 5]]
        desk.moved(1, 1, entries)
        entries[0][0] = 6
        self.assertEqual(desk.entries, ((5, 5),))

    def test_lists_and_tuples(self):
        for entries in (TWO, [list(entry) for entry in TWO], [*TWO], tuple([list(entry) for entry in TWO])):
            desk = DeskHouse(0, 0, 2, entries)
            self.assertEqual(desk.entries, TWO)
            desk.moved(1, 2, entries)
            self.assertEqual(desk.entries, TWO)


class TakeTest(Desks):
    def test_held(self):
        desk = DeskHouse(0, 0, 2, TWO, serial=5)
        self.answers("held", desk.take, 1, 9)
        self.answers("held", desk.take, seeker=2, amount=0)
        self.assertEqual((desk.entries, desk.serial, desk.waits), (TWO, 5, (1, 2)))

    def test_low(self):
        desk = DeskHouse(0, 0, 2, TWO, serial=5)
        self.answers("low", desk.take, 3, 4)
        self.answers("low", desk.take, 0, 0)
        self.assertEqual((desk.entries, desk.serial, desk.waits), (TWO, 5, (3, 0)))
        desk = DeskHouse(0, 0, 2, TWO[:1])
        self.answers("low", desk.take, 3, 0)
        self.assertEqual((desk.entries, desk.serial, desk.waits), (TWO[:1], 0, (3,)))

    def test_taken_at_a_free_place(self):
        desk = DeskHouse(0, 0, 2)
        self.assertEqual(desk.take(3, 1), "taken")
        self.assertEqual((desk.entries, desk.price, desk.serial, desk.waits), (((3, 1),), 0, 1, (3,)))
        self.assertEqual(desk.take(0, 8), "taken")
        self.assertEqual((desk.entries, desk.price, desk.serial, desk.waits), (((0, 8), (3, 1)), 1, 2, (3, 0)))

    def test_somebody_is_put_out(self):
        desk = DeskHouse(0, 0, 2, TWO, serial=5)
        self.assertEqual(desk.take(3, 5), "taken")
        self.assertEqual((desk.entries, desk.price, desk.serial), (((2, 9), (3, 5)), 5, 6))
        self.assertEqual(desk.waits, (3, 1))

    def test_equal_amounts(self):
        desk = DeskHouse(0, 0, 3, [(1, 4), (2, 4), (7, 6)])
        self.assertEqual(desk.take(0, 5), "taken")
        self.assertEqual((desk.entries, desk.waits), (((0, 5), (1, 4), (7, 6)), (0, 2)))
        self.assertEqual(desk.take(9, 5), "taken")
        self.assertEqual((desk.entries, desk.waits), (((0, 5), (7, 6), (9, 5)), (0, 2, 9, 1)))
        self.assertEqual(desk.take(1, 6), "taken")
        self.assertEqual((desk.entries, desk.waits), (((0, 5), (1, 6), (7, 6)), (0, 2, 9, 1)))

    def test_the_greatest_serial(self):
        desk = DeskHouse(0, 0, 2, TWO, serial=99998)
        self.assertEqual(desk.take(3, 5), "taken")
        self.assertEqual((desk.serial, desk.waits), (99999, (3, 1)))
        before = desk.entries
        self.assertEqual(desk.take(4, 9999), "low")
        self.assertEqual(desk.take(2, 9999), "held")
        self.assertEqual(desk.take(5, 1), "low")
        self.assertEqual((desk.serial, desk.entries, desk.waits), (99999, before, (3, 1, 4, 2, 5)))
        desk = DeskHouse(0, 0, 2, serial=99999)
        self.assertEqual(desk.take(4, 1), "low")
        self.assertEqual((desk.entries, desk.waits), ((), (4,)))

    def test_the_bounds(self):
        desk = DeskHouse(0, 0, 1, [(0, 9998)])
        self.assertEqual(desk.take(29, 9999), "taken")
        self.assertEqual(desk.entries, ((29, 9999),))
        self.assertEqual(desk.take(0, 9999), "low")

    def test_refusals(self):
        desk = DeskHouse(0, 0, 2, TWO)
        desk.wait(7)
        for wrong in (-1, 30, HUGE, -HUGE):
            self.stays(OutOfRange("seeker", wrong), desk, desk.take, wrong, -1)
            self.stays(OutOfRange("seeker", wrong), desk, desk.take, wrong, 10000)
        for wrong in (-1, 10000, HUGE, -HUGE):
            self.stays(OutOfRange("amount", wrong), desk, desk.take, 3, wrong)
            self.stays(OutOfRange("amount", wrong), desk, desk.take, 1, wrong)

    def test_runs_of_bids(self):
        source = random.Random(5)
        for run in range(60):
            desk = DeskHouse(run % 6, 0, 1 + run % 4)
            put_out = {}
            for _ in range(60):
                seeker, amount = source.randrange(8), source.randrange(25)
                before = (desk.entries, desk.price, desk.serial, sum(own for _, own in desk.entries))
                outcome, entries, out = take(desk.entries, desk.places, seeker, amount)
                self.assertEqual(desk.take(seeker, amount), outcome)
                self.assertEqual(desk.entries, entries)
                self.assertGreaterEqual(desk.price, before[1])
                if outcome == "taken":
                    self.assertEqual(desk.serial, before[2] + 1)
                    self.assertGreater(sum(own for _, own in entries), before[3])
                else:
                    self.assertEqual((desk.entries, desk.serial), (before[0], before[2]))
                if out != -1:
                    put_out[out] = max(put_out.get(out, 0), dict(before[0])[out])
                for own in put_out.values():
                    self.assertLessEqual(own, desk.price)

    def test_a_copy_of_a_bid_is_not_taken_any_more(self):
        desk = DeskHouse(0, 0, 1)
        desk.take(1, 3)
        desk.take(2, 4)
        self.assertEqual(desk.take(1, 3), "low")
        self.assertEqual(desk.entries, ((2, 4),))


class WaitingTest(Desks):
    def test_each_seeker_once_in_the_order_of_coming(self):
        desk = DeskHouse(0, 0, 2)
        for seeker in (5, 0, 29, 5, 0, 7):
            self.answers(None, desk.wait, seeker)
        self.assertEqual(desk.waits, (5, 0, 29, 7))
        self.answers(None, desk.wait, seeker=7)
        self.assertEqual(desk.waits, (5, 0, 29, 7))

    def test_bids_and_waiting(self):
        desk = DeskHouse(0, 0, 1, [(4, 2)])
        desk.wait(4)
        desk.take(6, 1)
        desk.take(3, 5)
        self.assertEqual(desk.waits, (4, 6, 3))

    def test_served(self):
        desk = DeskHouse(0, 0, 2, TWO)
        self.answers((), desk.served)
        desk.wait(5)
        desk.wait(0)
        waits = desk.waits
        self.assertEqual(desk.served(), (5, 0))
        self.assertEqual((desk.waits, waits, desk.entries), ((), (5, 0), TWO))
        self.assertEqual(desk.served(), ())
        desk.wait(5)
        self.assertEqual(desk.waits, (5,))

    def test_refusals(self):
        desk = DeskHouse(0, 0, 2, TWO)
        desk.wait(7)
        for wrong in (-1, 30, HUGE, -HUGE):
            self.stays(OutOfRange("seeker", wrong), desk, desk.wait, wrong)
            self.stays(OutOfRange("seeker", wrong), desk, desk.told, wrong)


class ToldTest(Desks):
    def test_letters(self):
        desk = DeskHouse(3, 8, 2, TWO, serial=77)
        self.answers(("told", 8, 3, 1, 77, 4, 4), desk.told, 1)
        self.answers(("told", 8, 3, 2, 77, 4, 9), desk.told, 2)
        self.answers(("told", 8, 3, 0, 77, 4, -1), desk.told, 0)
        self.answers(("told", 8, 3, 29, 77, 4, -1), desk.told, seeker=29)
        self.assertEqual(desk.waits, ())

    def test_the_present_state(self):
        desk = DeskHouse(3, 8, 2, TWO[:1])
        self.assertEqual(desk.told(1), ("told", 8, 3, 1, 0, 0, 4))
        desk.take(0, 6)
        self.assertEqual(desk.told(0), ("told", 8, 3, 0, 1, 4, 6))
        desk.moved(9, 1, [])
        self.assertEqual(desk.told(0), ("told", 9, 3, 0, 0, 0, -1))


class MovedTest(Desks):
    def test_moved(self):
        desk = DeskHouse(3, 8, 2, TWO, serial=77)
        desk.wait(9)
        desk.wait(1)
        self.answers(None, desk.moved, 9, 3, [(0, 5), (1, 6), (2, 7)])
        words = ("desk", "3", "up", "9", "3", "0", "entries", "0", "5", "1", "6", "2", "7", "waits", "9", "1")
        self.assertEqual(state(desk), (3, 9, 3, 0, ((0, 5), (1, 6), (2, 7)), 5, (9, 1), words))
        self.answers(None, desk.moved, era=999, places=9, entries=[])
        self.assertEqual(desk.words(), ("desk", "3", "up", "999", "9", "0", "entries", "waits", "9", "1"))

    def test_refusals(self):
        desk = DeskHouse(3, 8, 2, TWO, serial=77)
        desk.wait(9)
        for wrong in (-1, 1000, HUGE, -HUGE):
            self.stays(OutOfRange("era", wrong), desk, desk.moved, wrong, 0, TEN)
        for wrong in (0, -1, 10, HUGE, -HUGE):
            self.stays(OutOfRange("places", wrong), desk, desk.moved, 9, wrong, TEN)
        for entries, error in WRONG_ENTRIES:
            self.stays(error, desk, desk.moved, 9, 2, entries)


class WordsTest(Desks):
    def test_words(self):
        desk = DeskHouse(0, 0, 1)
        self.answers(("desk", "0", "up", "0", "1", "0", "entries", "waits"), desk.words)
        desk.take(1, 1)
        self.answers(("desk", "0", "up", "0", "1", "1", "entries", "1", "1", "waits", "1"), desk.words)
        desk.take(0, 12)
        expected = ("desk", "0", "up", "0", "1", "2", "entries", "0", "12", "waits", "1", "0")
        self.answers(expected, desk.words)
        desk.served()
        self.answers((*expected[:-2],), desk.words)

    def test_the_words_of_houses(self):
        self.answers(("house", "4", "up", "17"), House(4, 17).words)
        self.assertEqual((House(4, 17).number, House(number=4, era=17).era), (4, 17))


class TwoDesksTest(Desks):
    def test_side_by_side(self):
        one, two = DeskHouse(0, 0, 2, TWO), DeskHouse(0, 0, 2, TWO)
        before = state(two)
        one.take(3, 8)
        one.wait(5)
        self.assertEqual(state(two), before)
        after = state(one)
        two.moved(4, 1, [])
        two.wait(7)
        two.served()
        self.assertEqual(state(one), after)

    def test_what_was_told_does_not_change(self):
        desk = DeskHouse(0, 0, 2)
        told = (desk.entries, desk.waits, desk.words(), desk.told(1))
        desk.take(1, 4)
        expected = ((), (), ("desk", "0", "up", "0", "2", "0", "entries", "waits"), ("told", 0, 0, 1, 0, 0, -1))
        self.assertEqual(told, expected)
        self.assertEqual(desk.serial, 1)
        self.assertLess(desk.serial, MOST_SERIAL)
