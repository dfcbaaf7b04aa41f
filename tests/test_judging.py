from itertools import combinations, product

from heldbest.errors import OutOfRange
from heldbest.judging import envy, judge
from heldbest.plain import plain_best, plain_bests
from heldbest.seats import value
from heldbest.tables import Table
from tests.helping import Case, example

HUGE = 10 ** 40


def plain_envy(table, seeker, desk, prices, measure, slack):
    """What point 14 calls k, straight from its description."""
    gains = [measure * worth - price for worth, price in zip(table.rows[seeker], prices)]
    profit = max([0, *gains])
    if desk == -1:
        return None if profit == 0 else [gain > 0 for gain in gains].index(True)
    if gains[desk] + slack >= profit:
        return None
    if gains[desk] + slack < 0:
        return -1
    return [gain > gains[desk] + slack for gain in gains].index(True)


def plain_judge(table, held, prices, lot, measure, slack):
    """The first fault of point 14, straight from its description."""
    for seeker, desk in enumerate(held):
        if desk != -1 and seeker not in lot:
            return ("stranger", seeker)
    for seeker, desk in enumerate(held):
        if desk != -1 and table.rows[seeker][desk] == 0:
            return ("seeker", seeker)
    for desk in range(table.desks):
        if held.count(desk) > table.places[desk]:
            return ("desk", desk)
    for desk in range(table.desks):
        if held.count(desk) < table.places[desk] and prices[desk] > 0:
            return ("free", desk)
    for seeker in lot:
        k = plain_envy(table, seeker, held[seeker], prices, measure, slack)
        if k is not None:
            return ("envy", seeker, k)
    return None


class EnvyTest(Case):
    def test_every_small_case(self):
        table = Table([1, 1], [[0, 2], [3, 1], [1, 1]], 3)
        for seeker, desk, *prices in product(range(3), (-1, 0, 1), range(5), range(5)):
            self.answers(plain_envy(table, seeker, desk, prices, 1, 0), envy, table, seeker, desk, prices)
            for measure, slack in ((1, 1), (2, 0), (2, 1), (3, 2)):
                expected = plain_envy(table, seeker, desk, prices, measure, slack)
                self.answers(expected, envy, table, seeker, desk, prices, measure=measure, slack=slack)

    def test_content(self):
        self.answers(None, envy, example(), 0, 0, [3, 0])
        self.answers(None, envy, example(), 0, 1, [3, 0])
        self.answers(None, envy, example(), 0, -1, [4, 1])
        self.answers(None, envy, example(), 0, 0, [4, 1])

    def test_a_better_desk(self):
        self.answers(1, envy, example(), 0, 0, [4, 0])
        self.answers(0, envy, example(), 0, 1, [2, 0])
        self.answers(0, envy, example(), 0, -1, [3, 9])
        self.answers(1, envy, example(), 0, -1, [4, 0])

    def test_the_first_better_desk(self):
        table = Table([1, 1, 1, 1], [[5, 3, 9, 9]], 1)
        self.answers(2, envy, table, 0, 0, [0, 0, 0, 0])
        self.answers(0, envy, table, 0, 1, [0, 0, 0, 0])
        self.answers(0, envy, table, 0, -1, [0, 0, 0, 0])
        self.answers(1, envy, table, 0, -1, [5, 0, 0, 0])
        self.answers(3, envy, table, 0, 0, [3, 1, 8, 0])

    def test_nothing_would_be_better(self):
        self.answers(-1, envy, example(), 0, 0, [5, 0])
        self.answers(-1, envy, example(), 0, 0, [9999, 0])
        self.answers(-1, envy, example(), 0, 1, [0, 2])
        self.answers(-1, envy, example(), 0, 0, [6, 9], slack=1)
        self.answers(None, envy, example(), 0, 0, [5, 9], slack=1)
        self.answers(1, envy, example(), 0, 0, [5, 0], slack=1)
        self.answers(1, envy, Table([1, 1], [[4, 2]], 1), 0, 0, [5, 0], slack=1)

    def test_a_desk_of_worth_zero(self):
        table = Table([1, 1], [[0, 2]], 1)
        self.answers(1, envy, table, 0, 0, [0, 0])
        self.answers(None, envy, table, 0, 0, [0, 2])
        self.answers(-1, envy, table, 0, 0, [1, 0])
        self.answers(None, envy, table, 0, 0, [1, 2], slack=1)

    def test_slack_is_nothing_to_a_seeker_without_a_desk(self):
        self.answers(0, envy, example(), 0, -1, [3, 9], slack=100)
        self.answers(None, envy, example(), 0, -1, [4, 9], slack=100)
        self.answers(None, envy, example(), 0, 1, [0, 1], slack=100)

    def test_measure_and_slack_at_their_bounds(self):
        table = Table([1, 1], [[99, 98]], 1)
        self.answers(None, envy, table, 0, 0, [9900, 9800], measure=100)
        self.answers(1, envy, table, 0, 0, [9900, 9799], measure=100)
        self.answers(None, envy, table, 0, 1, [0, 0], measure=100, slack=100)
        self.answers(0, envy, table, 0, 1, [0, 0], measure=100, slack=99)
        self.answers(None, envy, table, 0, 0, [1, 0], measure=1, slack=0)

    def test_refusals(self):
        for wrong in (-1, 3, HUGE, -HUGE):
            self.refuses(OutOfRange("seeker", wrong), envy, example(), wrong, 9, [], measure=0, slack=-1)
        for wrong in (-2, 2, HUGE, -HUGE):
            self.refuses(OutOfRange("desk", wrong), envy, example(), 0, wrong, [], measure=0, slack=-1)
        for length in (0, 1, 3):
            self.refuses(OutOfRange("prices", length), envy, example(), 0, 0, [-1] * length, measure=0, slack=-1)
        for wrong in (-1, 10000, HUGE, -HUGE):
            self.refuses(OutOfRange("price", wrong), envy, example(), 0, -1, [0, wrong], measure=0, slack=-1)
            self.refuses(OutOfRange("price", wrong), envy, example(), 0, -1, [wrong, -9], measure=0, slack=-1)
        for wrong in (0, -1, 101, HUGE, -HUGE):
            self.refuses(OutOfRange("measure", wrong), envy, example(), 0, 1, [0, 9999], measure=wrong, slack=-1)
            self.refuses(OutOfRange("measure", wrong), envy, example(), 0, 1, [0, 0], slack=101, measure=wrong)
        for wrong in (-1, 101, HUGE, -HUGE):
            self.refuses(OutOfRange("slack", wrong), envy, example(), 0, 1, [0, 0], slack=wrong)


class JudgeTest(Case):
    def test_every_small_case(self):
        table = Table([1, 2], [[0, 2], [2, 1], [1, 1]], 3)
        lots = [lot for size in range(4) for lot in combinations(range(3), size)]
        for held in product((-1, 0, 1), repeat=3):
            for prices in product(range(3), repeat=2):
                expected = plain_judge(table, held, prices, range(3), 1, 0)
                self.answers(expected, judge, table, held, prices)
                for lot in lots:
                    expected = plain_judge(table, held, prices, lot, 1, 0)
                    self.answers(expected, judge, table, held, prices, lot=lot)
                expected = plain_judge(table, held, prices, (0, 2), 3, 2)
                self.answers(expected, judge, table, held, prices, lot=(0, 2), measure=3, slack=2)

    def test_each_fault(self):
        table = Table([1, 1], [[4, 0], [3, 2], [2, 2]], 3)
        self.answers(None, judge, table, [0, 1, -1], [3, 2])
        self.answers(("stranger", 1), judge, table, [0, 1, -1], [3, 2], lot=[0, 2])
        self.answers(("seeker", 0), judge, table, [1, 0, -1], [3, 2])
        self.answers(("desk", 0), judge, table, [0, 0, 1], [3, 2])
        self.answers(("free", 1), judge, table, [0, -1, -1], [3, 2])
        self.answers(("envy", 2, 1), judge, table, [0, 1, -1], [2, 1])
        self.answers(("envy", 0, -1), judge, table, [0, 1, -1], [5, 2])

    def test_the_order_of_the_faults(self):
        table = Table([1, 1, 1], [[1, 0, 1]] * 5, 5)
        worst = [-1, 1, 0, 0, 2]
        self.answers(("stranger", 2), judge, table, worst, [9, 9, 9], lot=[0, 1, 4])
        self.answers(("seeker", 1), judge, table, worst, [9, 9, 9])
        self.answers(("desk", 0), judge, table, [-1, -1, 0, 0, 2], [9, 9, 9])
        self.answers(("free", 1), judge, table, [-1, -1, 0, -1, 2], [0, 9, 0])
        self.answers(("free", 1), judge, table, [-1, -1, 0, -1, -1], [0, 9, 9])
        self.answers(("envy", 0, 0), judge, table, [-1, -1, 0, -1, 2], [0, 0, 9])
        self.answers(("envy", 2, -1), judge, table, [-1, -1, 0, -1, 2], [9, 0, 1])

    def test_a_free_desk_may_have_price_zero(self):
        table = Table([2, 1], [[4, 1]], 3)
        self.answers(None, judge, table, [0], [0, 0])
        self.answers(("free", 0), judge, table, [0], [1, 0])
        self.answers(("free", 1), judge, table, [0], [0, 1])
        self.answers(None, judge, Table([1, 1], [[4, 1]], 3), [0], [3, 0])

    def test_only_the_lot_is_asked_for_envy(self):
        self.answers(None, judge, example(), [0, 1, -1], [2, 1], lot=[0, 1])
        self.answers(None, judge, example(), [-1, -1, -1], [0, 0], lot=[])
        self.answers(("envy", 0, 0), judge, example(), [-1, -1, -1], [0, 0], lot=[0])
        self.answers(("envy", 1, 0), judge, example(), [-1, -1, -1], [0, 0], lot=[1, 2])
        self.answers(None, judge, Table([1], [], 1), [], [0])

    def test_measure_and_slack(self):
        self.answers(None, judge, example(), [0, 1, -1], [31, 20], measure=10, slack=1)
        self.answers(("envy", 1, 0), judge, example(), [0, 1, -1], [28, 20], measure=10, slack=1)
        self.answers(None, judge, example(), [0, 1, -1], [29, 20], measure=10, slack=1)
        self.answers(("envy", 1, 0), judge, example(), [0, 1, -1], [29, 20], measure=10)
        self.answers(None, judge, example(), [0, 1, -1], [300, 200], measure=100, slack=100)
        self.answers(("envy", 2, 1), judge, example(), [0, 1, -1], [300, 199], measure=100, slack=100)
        self.answers(None, judge, example(), [1, 0, -1], [2, 2], measure=1, slack=100)
        self.answers(None, judge, example(), [0, 1, -1], [3, 2], lot=None, measure=1, slack=0)

    def test_what_is_accepted_is_best(self):
        table = Table([1, 1], [[2, 1], [1, 1], [2, 2]], 3)
        for prices in product(range(4), repeat=2):
            accepted = [held for held in product((-1, 0, 1), repeat=3) if judge(table, held, prices) is None]
            self.assertIn(tuple(accepted), ((), plain_bests(table)))

    def test_slack_bounds_what_is_missed(self):
        table = Table([1, 1], [[2, 1], [1, 1], [2, 2]], 3)
        for held in product((-1, 0, 1), repeat=3):
            for prices in product(range(0, 9, 2), repeat=2):
                if judge(table, held, prices, measure=3, slack=2) is None:
                    seated = len([desk for desk in held if desk != -1])
                    self.assertLessEqual(plain_best(table)[0], value(table, held) + 2 * seated // 3)

    def test_by_name(self):
        self.answers(
            ("envy", 2, 1), judge, table=example(), held=[0, 1, -1], prices=[2, 1], slack=0, measure=1, lot=None,
        )


class JudgeRefusalsTest(Case):
    def judged(self, error, held, prices, **named):
        self.refuses(error, judge, example(), held, prices, **named)

    def test_held(self):
        for length in (0, 2, 4):
            self.judged(OutOfRange("held", length), [9] * length, [], lot=[9], measure=0, slack=-1)
        for wrong in (-2, 2, HUGE, -HUGE):
            self.judged(OutOfRange("desk", wrong), [0, wrong, 9], [], lot=[9], measure=0, slack=-1)

    def test_prices(self):
        for length in (0, 1, 3):
            self.judged(OutOfRange("prices", length), [0, 0, 0], [-1] * length, lot=[9], measure=0, slack=-1)
        for wrong in (-1, 10000, HUGE, -HUGE):
            self.judged(OutOfRange("price", wrong), [0, 0, 0], [wrong, -5], lot=[9], measure=0, slack=-1)
            self.judged(OutOfRange("price", wrong), [0, 0, 0], [9999, wrong], lot=[9], measure=0, slack=-1)

    def test_lot(self):
        for wrong in (-1, 3, HUGE, -HUGE):
            self.judged(OutOfRange("seeker", wrong), [0, 0, 0], [0, 0], lot=[0, wrong], measure=0, slack=-1)
            self.judged(OutOfRange("seeker", wrong), [0, 0, 0], [0, 0], slack=-1, measure=0, lot=[0, wrong])
        self.judged(OutOfRange("seeker", 1), [0, 0, 0], [0, 0], lot=[1, 1], measure=0)
        self.judged(OutOfRange("seeker", 0), [0, 0, 0], [0, 0], lot=[1, 0], slack=-1)

    def test_measure(self):
        for wrong in (0, -1, 101, HUGE, -HUGE):
            self.judged(OutOfRange("measure", wrong), [0, 0, 0], [0, 0], measure=wrong, slack=-1)
            self.judged(OutOfRange("measure", wrong), [0, 0, 0], [0, 0], slack=101, measure=wrong, lot=[])

    def test_slack(self):
        for wrong in (-1, 101, HUGE, -HUGE):
            self.judged(OutOfRange("slack", wrong), [0, 0, 0], [0, 0], slack=wrong)
            self.judged(OutOfRange("slack", wrong), [0, 1, -1], [3, 2], slack=wrong, measure=100)
