from itertools import product

from heldbest.choosing import choose, left_at
from heldbest.errors import OutOfRange
from tests.helping import HUGE, Case


class ChoosingTest(Case):
    def test_every_small_case(self):
        for row in product(range(4), repeat=2):
            for known in product((0, 1, 2, 3, 4, 6, 9), repeat=2):
                left = [3 * worth - price for worth, price in zip(row, known)]
                self.answers(tuple(left), left_at, row, 3, known)
                desk = 0 if left[0] >= left[1] else 1
                expected = (desk, known[desk] + 1) if left[desk] >= 1 else None
                self.answers(expected, choose, row, 3, known)

    def test_what_is_left(self):
        self.answers((11, 10), left_at, [4, 1], 10, [29, 0])
        self.answers((-9999,), left_at, [0], 1, [9999])
        self.answers((9900, 0, 1, -1, 100, 0), left_at, [99, 0, 1, 2, 1, 5], 100, [0, 0, 99, 201, 0, 500])
        self.answers((4,), left_at, row=[4], scale=1, known=[0])

    def test_the_chosen_desk(self):
        self.answers((0, 30), choose, [4, 1], 10, [29, 0])
        self.answers((1, 1), choose, [4, 1], 10, [31, 0])
        self.answers((0, 31), choose, [4, 1], 10, [30, 0])
        self.answers((0, 1), choose, row=[4], scale=1, known=[0])

    def test_the_first_of_several(self):
        self.answers((0, 1), choose, [5, 5, 5], 7, [0, 0, 0])
        self.answers((1, 1), choose, [4, 5, 5], 7, [0, 0, 0])
        self.answers((1, 2), choose, [4, 5, 6], 7, [0, 1, 8])
        self.answers((5, 1), choose, [0, 0, 0, 0, 0, 1], 1, [0] * 6)

    def test_one_and_nothing_left(self):
        self.answers((0, 40), choose, [4, 1], 10, [39, 10])
        self.answers(None, choose, [4, 1], 10, [40, 10])
        self.answers(None, choose, [4, 1], 10, [41, 9999])
        self.answers((1, 10), choose, [4, 1], 10, [40, 9])
        self.answers(None, choose, [0], 100, [0])
        self.answers(None, choose, [99], 100, [9900])
        self.answers((0, 9900), choose, [99], 100, [9899])

    def test_the_amount_is_at_most_the_weight(self):
        for known in product((0, 5, 11, 12, 17, 18, 40), repeat=2):
            bid = choose([3, 2], 6, known)
            if bid is not None:
                self.assertLessEqual(bid[1], 6 * (3, 2)[bid[0]])

    def test_refusals(self):
        for ask in (left_at, choose):
            for length in (0, 7):
                self.refuses(OutOfRange("row", length), ask, [-1] * length, 0, [])
            for wrong in (-1, 100, HUGE, -HUGE):
                self.refuses(OutOfRange("worth", wrong), ask, [99, wrong], 0, [])
                self.refuses(OutOfRange("worth", wrong), ask, [wrong, -7], 101, [-1])
            for wrong in (0, -1, 101, HUGE, -HUGE):
                self.refuses(OutOfRange("scale", wrong), ask, [4, 1], wrong, [-1])
            for length in (0, 1, 3, 6):
                self.refuses(OutOfRange("known", length), ask, [4, 1], 10, [-1] * length)
            for wrong in (-1, 10000, HUGE, -HUGE):
                self.refuses(OutOfRange("price", wrong), ask, [4, 1], 10, [wrong, -7])
                self.refuses(OutOfRange("price", wrong), ask, [4, 1], 10, [9999, wrong])
