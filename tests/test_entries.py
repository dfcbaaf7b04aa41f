from itertools import combinations, product

from heldbest.entries import amount_of, price_of, take
from heldbest.errors import OutOfRange
from tests.helping import Case

HUGE = 10 ** 40

NINE = tuple((seeker, 50 - seeker) for seeker in range(9))
TEN = tuple((seeker, 50 - seeker) for seeker in range(10))


def plain_take(entries, places, seeker, amount):
    """A bid, straight from its description."""
    held = dict(entries)
    if seeker in held:
        return ("held", entries, -1)
    price = min(held.values()) if len(held) == places else 0
    if amount <= price:
        return ("low", entries, -1)
    out = -1
    if len(held) == places:
        out = sorted((own, -holder) for holder, own in held.items())[0][1] * -1
        del held[out]
    held[seeker] = amount
    return ("taken", tuple((holder, held[holder]) for holder in sorted(held)), out)


class PriceTest(Case):
    def test_a_place_is_left(self):
        self.answers(0, price_of, [], 1)
        self.answers(0, price_of, [(0, 7)], 2)
        self.answers(0, price_of, NINE[:8], 9)

    def test_no_place_is_left(self):
        self.answers(7, price_of, [(0, 7)], 1)
        self.answers(4, price_of, [(1, 9), (2, 4), (7, 5)], 3)
        self.answers(0, price_of, [(3, 0)], 1)
        self.answers(9999, price_of, [(29, 9999)], 1)
        self.answers(42, price_of, NINE, 9)

    def test_more_entries_than_places(self):
        self.refuses(OutOfRange("entries", 2), price_of, [(0, 7), (1, 7)], 1)
        self.refuses(OutOfRange("entries", 9), price_of, NINE, 8)
        self.refuses(OutOfRange("entries", 9), price_of, NINE, 1)

    def test_by_name(self):
        self.answers(7, price_of, entries=[(0, 7)], places=1)


class AmountTest(Case):
    def test_amounts(self):
        for seeker in range(30):
            expected = {0: 7, 4: 0, 29: 9999}.get(seeker, -1)
            self.answers(expected, amount_of, [(0, 7), (4, 0), (29, 9999)], seeker)
            self.answers(-1, amount_of, [], seeker)
        for seeker, amount in NINE:
            self.answers(amount, amount_of, NINE, seeker)

    def test_seeker(self):
        for wrong in (-1, 30, HUGE, -HUGE):
            self.refuses(OutOfRange("seeker", wrong), amount_of, [(0, 7)], wrong)
            self.refuses(OutOfRange("seeker", wrong), amount_of, [], wrong)
            self.refuses(OutOfRange("amount", -1), amount_of, [(0, -1)], wrong)
            self.refuses(OutOfRange("entries", 10), amount_of, TEN, wrong)

    def test_by_name(self):
        self.answers(7, amount_of, entries=[(0, 7)], seeker=0)


class TakeTest(Case):
    def test_every_small_case(self):
        for size in range(4):
            for seekers in combinations(range(4), size):
                for amounts in product((1, 2, 4), repeat=size):
                    entries = tuple(zip(seekers, amounts))
                    for places in range(max(1, size), 5):
                        for seeker, amount in product(range(4), range(6)):
                            expected = plain_take(entries, places, seeker, amount)
                            self.assertEqual(take(entries, places, seeker, amount), expected)

    def test_held(self):
        self.answers(("held", ((1, 4), (2, 4)), -1), take, [(1, 4), (2, 4)], 2, 1, 9)
        self.answers(("held", ((1, 4), (2, 4)), -1), take, [(1, 4), (2, 4)], 3, 2, 9)
        self.answers(("held", ((1, 4),), -1), take, [(1, 4)], 1, 1, 0)
        self.answers(("held", ((1, 0),), -1), take, [(1, 0)], 1, 1, 5)

    def test_low(self):
        self.answers(("low", ((1, 4), (2, 6)), -1), take, [(1, 4), (2, 6)], 2, 0, 4)
        self.answers(("low", ((1, 4), (2, 6)), -1), take, [(1, 4), (2, 6)], 2, 0, 3)
        self.answers(("low", (), -1), take, [], 1, 0, 0)
        self.answers(("low", ((1, 4),), -1), take, [(1, 4)], 2, 0, 0)
        self.answers(("low", ((1, 0),), -1), take, [(1, 0)], 1, 0, 0)
        self.answers(("low", ((1, 9999),), -1), take, [(1, 9999)], 1, 0, 9999)

    def test_taken_at_a_free_place(self):
        self.answers(("taken", ((3, 1),), -1), take, [], 1, 3, 1)
        self.answers(("taken", ((0, 1), (1, 4)), -1), take, [(1, 4)], 2, 0, 1)
        self.answers(("taken", ((1, 4), (2, 1)), -1), take, [(1, 4)], 2, 2, 1)
        self.answers(("taken", ((1, 4), (2, 1), (3, 5)), -1), take, [(1, 4), (3, 5)], 9, 2, 1)
        self.answers(("taken", ((29, 9999),), -1), take, [], 9, 29, 9999)

    def test_the_least_amount_is_put_out(self):
        self.answers(("taken", ((0, 5), (2, 9)), 1), take, [(1, 4), (2, 9)], 2, 0, 5)
        self.answers(("taken", ((1, 9), (3, 5)), 2), take, [(1, 9), (2, 4)], 2, 3, 5)
        self.answers(("taken", ((0, 1),), 5), take, [(5, 0)], 1, 0, 1)
        self.answers(("taken", ((29, 9999),), 0), take, [(0, 9998)], 1, 29, 9999)

    def test_of_several_the_greatest_seeker_is_put_out(self):
        self.answers(("taken", ((0, 5), (1, 4)), 2), take, [(1, 4), (2, 4)], 2, 0, 5)
        self.answers(("taken", ((1, 4), (3, 5), (9, 8)), 7), take, [(1, 4), (7, 4), (9, 8)], 3, 3, 5)
        self.answers(("taken", ((0, 8), (2, 4), (5, 9)), 6), take, [(0, 8), (2, 4), (6, 4)], 3, 5, 9)

    def test_nine_entries(self):
        self.answers(("low", NINE, -1), take, NINE, 9, 9, 42)
        self.answers(("taken", (*NINE[:8], (9, 43)), 8), take, NINE, 9, 9, 43)
        self.answers(("taken", (*NINE[:8], (10, 1)), -1), take, NINE[:8], 9, 10, 1)

    def test_a_put_out_bid_is_not_taken_again(self):
        outcome, entries, out = take(((1, 4), (2, 4)), 2, 0, 5)
        self.assertEqual(take(entries, 2, out, 4), ("low", entries, -1))

    def test_by_name(self):
        self.answers(("taken", ((0, 1),), -1), take, entries=[], places=1, seeker=0, amount=1)

    def test_later_changes_have_no_effect(self):
        entries = [[1, 4]]
        for answer in (take(entries, 2, 1, 9), take(entries, 2, 0, 0), take(entries, 2, 2, 9)):
            self.assertEqual(answer[1][0], (1, 4))
        answers = [take(entries, 2, 1, 9), take(entries, 2, 0, 0), take(entries, 2, 2, 9)]
        entries[0][1] = 8
        entries.append([5, 5])
        self.assertEqual([answer[1][0] for answer in answers], [(1, 4)] * 3)
        self.assertEqual([len(answer[1]) for answer in answers], [1, 1, 2])

    def test_seeker_and_amount(self):
        for wrong in (-1, 30, HUGE, -HUGE):
            self.refuses(OutOfRange("seeker", wrong), take, [(0, 7)], 1, wrong, 9)
            self.refuses(OutOfRange("seeker", wrong), take, [(0, 7), (1, 7)], 1, wrong, -1)
        for wrong in (-1, 10000, HUGE, -HUGE):
            self.refuses(OutOfRange("amount", wrong), take, [(0, 7)], 1, 1, wrong)
            self.refuses(OutOfRange("amount", wrong), take, [(0, 7)], 1, 0, wrong)
            self.refuses(OutOfRange("amount", wrong), take, [(0, 7), (1, 7)], 1, 1, wrong)

    def test_more_entries_than_places(self):
        self.refuses(OutOfRange("entries", 2), take, [(0, 7), (1, 7)], 1, 2, 9)
        self.refuses(OutOfRange("entries", 2), take, [(0, 7), (1, 7)], 1, 0, 9)
        self.refuses(OutOfRange("entries", 9), take, NINE, 8, 20, 0)


class EntriesRefusalsTest(Case):
    def refused(self, error, entries, places=9):
        self.refuses(error, price_of, entries, places)
        self.refuses(error, take, entries, places, 99, -1)
        self.refuses(error, amount_of, entries, 99)

    def test_ten_entries(self):
        self.refused(OutOfRange("entries", 10), TEN)
        self.refused(OutOfRange("entries", 10), [(-1, -1)] * 10, 0)
        self.refused(OutOfRange("entries", 300), [(0, 0)] * 300, 10)

    def test_seekers(self):
        for wrong in (-1, 30, HUGE, -HUGE):
            self.refused(OutOfRange("seeker", wrong), [(wrong, 5)])
            self.refused(OutOfRange("seeker", wrong), [(3, 5), (wrong, -5), (0, 5)])
            self.refused(OutOfRange("seeker", wrong), [(3, 5), (4, 5), (wrong, 5)], 0)

    def test_order(self):
        self.refused(OutOfRange("seeker", 3), [(3, 5), (3, 6)])
        self.refused(OutOfRange("seeker", 2), [(3, 5), (2, -1)])
        self.refused(OutOfRange("seeker", 3), [(1, 5), (4, 5), (3, 5), (30, 5)])
        self.refused(OutOfRange("seeker", 1), [(1, 5), (1, 5)], 1)

    def test_amounts(self):
        for wrong in (-1, 10000, HUGE, -HUGE):
            self.refused(OutOfRange("amount", wrong), [(3, wrong)])
            self.refused(OutOfRange("amount", wrong), [(3, 9999), (4, wrong), (4, 5)])
            self.refused(OutOfRange("amount", wrong), [(3, wrong), (-1, 5)], 10)

    def test_places(self):
        for wrong in (0, -1, 10, HUGE, -HUGE):
            self.refuses(OutOfRange("places", wrong), price_of, [], wrong)
            self.refuses(OutOfRange("places", wrong), price_of, [(0, 1), (1, 1)], wrong)
            self.refuses(OutOfRange("places", wrong), take, [], wrong, 99, -1)
            self.refuses(OutOfRange("places", wrong), take, [(0, 1), (1, 1)], wrong, 2, 2)
