from itertools import product

from heldbest.errors import BadStart, NotAccepted, OutOfRange
from heldbest.judging import judge
from heldbest.plain import plain_best
from heldbest.seats import value
from heldbest.starts import is_cold, start_fault, start_held, start_of, start_prices
from heldbest.tables import Table
from tests.helping import Case, example

HUGE = 10 ** 40
ASKS = (start_fault, start_held, start_prices, is_cold)


def plain_start_fault(table, start):
    """The fault of a start, straight from its description."""
    for j, entries in enumerate(start):
        seekers = [seeker for seeker, _ in entries]
        if len(entries) > table.places[j]:
            return ("places", j)
        if any(first >= second for first, second in zip(seekers, seekers[1:])):
            return ("order", j)
        for i in seekers:
            if table.rows[i][j] == 0:
                return ("worth", j, i)
        for i, amount in entries:
            if amount > table.scale * table.rows[i][j]:
                return ("amount", j, i)
    at = {}
    for j, entries in enumerate(start):
        for i, amount in entries:
            at.setdefault(i, []).append((j, amount))
    for i in sorted(at):
        if len(at[i]) > 1:
            return ("twice", i)
    prices = [
        min(amount for _, amount in entries) if len(entries) == table.places[j] else 0
        for j, entries in enumerate(start)
    ]
    for i in sorted(at):
        j, amount = at[i][0]
        for k in range(table.desks):
            if k != j:
                elsewhere = table.scale * table.rows[i][k] - prices[k] - 1
                if elsewhere > table.scale * table.rows[i][j] - amount:
                    return ("envy", i, k)
    return None


class StartTest(Case):
    def has_fault(self, fault, table, start):
        self.answers(fault, start_fault, table, start)
        self.refuses(BadStart(fault), start_held, table, start)
        self.refuses(BadStart(fault), start_prices, table, start)

    def is_sound(self, held, prices, table, start):
        self.answers(None, start_fault, table, start)
        self.answers(held, start_held, table, start)
        self.answers(prices, start_prices, table, start)


class StartFaultTest(StartTest):
    def test_the_examples(self):
        self.has_fault(("envy", 1, 0), example(), [[(0, 20)], [(1, 20)]])
        self.is_sound((0, 1, -1), (30, 20), example(), [[(0, 30)], [(1, 20)]])

    def test_every_small_start(self):
        table = Table([1, 2], [[2, 1], [1, 0], [1, 1]], 3)
        pairs = [(seeker, amount) for seeker in range(3) for amount in (0, 9, 10, 11, 20)]
        first = [(), *[(one,) for one in pairs]]
        second = [*first, *[(one, two) for one in pairs[::2] for two in pairs[::2]]]
        for start in product(first, second):
            fault = plain_start_fault(table, start)
            self.assertEqual(start_fault(table, start), fault)
            if fault is None:
                held, prices = start_held(table, start), start_prices(table, start)
                holders = [seeker for seeker, desk in enumerate(held) if desk != -1]
                verdict = judge(table, held, prices, lot=holders, measure=table.scale, slack=1)
                self.assertIsNone(verdict)
                self.assertEqual(value(table, held), plain_best(table, holders)[0])

    def test_places(self):
        table = Table([1, 2], [[1, 1]] * 4, 4)
        self.has_fault(("places", 0), table, [[(0, 1), (1, 1)], []])
        self.has_fault(("places", 1), table, [[], [(0, 1), (1, 1), (2, 1)]])
        self.has_fault(("places", 0), table, [[(0, 1)] * 50, []])
        self.is_sound((1, 1, -1, -1), (0, 1), table, [[], [(0, 1), (1, 1)]])

    def test_order(self):
        table = Table([3, 3], [[1, 1]] * 4, 4)
        self.has_fault(("order", 0), table, [[(1, 1), (0, 1)], []])
        self.has_fault(("order", 1), table, [[], [(2, 1), (2, 1)]])
        self.has_fault(("order", 1), table, [[(0, 1)], [(1, 1), (3, 1), (2, 1)]])

    def test_worth(self):
        table = Table([3, 3], [[1, 0], [1, 0], [0, 1], [0, 1]], 4)
        self.has_fault(("worth", 0, 2), table, [[(0, 1), (2, 0), (3, 0)], []])
        self.has_fault(("worth", 1, 1), table, [[], [(1, 0), (2, 0)]])

    def test_amount(self):
        table = Table([3, 3], [[1, 1], [2, 2], [3, 3]], 4)
        self.has_fault(("amount", 0, 1), table, [[(0, 11), (1, 23), (2, 34)], []])
        self.has_fault(("amount", 1, 0), table, [[], [(0, 12)]])
        self.has_fault(("amount", 1, 2), table, [[], [(0, 1), (2, 9999)]])

    def test_one_desk_after_the_other(self):
        table = Table([1, 1], [[1, 0], [1, 1], [0, 1]], 4)
        self.has_fault(("amount", 0, 0), table, [[(0, 12)], [(1, 1), (2, 1)]])
        self.has_fault(("worth", 0, 2), table, [[(2, 12)], [(1, 1), (2, 1)]])
        self.has_fault(("places", 1), table, [[(0, 11)], [(1, 1), (0, 99)]])
        self.has_fault(("worth", 1, 0), table, [[(0, 11)], [(0, 1)]])
        self.has_fault(("amount", 1, 1), table, [[(1, 11)], [(1, 12)]])

    def test_all_of_one_desk_in_order(self):
        table = Table([2, 2], [[1, 0], [1, 1], [1, 1]], 4)
        self.has_fault(("places", 1), table, [[], [(2, 99), (0, 0), (0, 0)]])
        self.has_fault(("order", 1), table, [[], [(2, 99), (0, 0)]])
        self.has_fault(("worth", 1, 0), table, [[], [(0, 99), (1, 99)]])
        self.has_fault(("amount", 1, 1), table, [[(0, 11), (1, 11)], [(1, 99)]])
        two = Table([2], [[1], [0]], 4)
        self.has_fault(("worth", 0, 1), two, [[(0, 99), (1, 0)]])

    def test_twice(self):
        table = Table([2, 2, 2], [[1, 1, 1]] * 4, 4)
        self.has_fault(("twice", 1), table, [[(2, 0), (3, 0)], [(1, 0), (3, 0)], [(1, 0)]])
        self.has_fault(("twice", 0), table, [[(0, 0)], [(0, 0)], [(0, 0)]])
        self.has_fault(("twice", 3), table, [[(0, 14)], [(3, 14)], [(3, 14)]])

    def test_envy(self):
        table = Table([1, 1, 1], [[2, 1, 1], [1, 3, 2], [1, 2, 2]], 4)
        self.assertEqual(table.scale, 14)
        self.is_sound((0, -1, -1), (15, 0, 0), table, [[(0, 15)], [], []])
        self.has_fault(("envy", 0, 1), table, [[(0, 16)], [], []])
        self.has_fault(("envy", 1, 1), table, [[(0, 15)], [], [(1, 1)]])
        self.is_sound((0, 1, 2), (0, 1, 1), table, [[(0, 0)], [(1, 1)], [(2, 1)]])
        self.is_sound((0, -1, -1), (15, 0, 0), table, [[(0, 15)], [], []])
        self.has_fault(("envy", 0, 2), table, [[(0, 16)], [(1, 1)], []])
        self.has_fault(("envy", 0, 1), table, [[(0, 28)], [(1, 1)], [(2, 1)]])
        self.has_fault(("envy", 1, 1), table, [[(1, 0)], [(2, 0)], []])
        self.has_fault(("envy", 2, 0), Table([1, 1], [[0, 1], [1, 1], [1, 1]], 3), [[], [(2, 9)]])

    def test_the_least_seeker_that_envies(self):
        table = Table([2, 2], [[1, 2], [2, 1], [2, 2]], 4)
        self.has_fault(("envy", 0, 1), table, [[(0, 1)], [(1, 1)]])
        self.has_fault(("envy", 1, 0), table, [[(2, 9)], [(1, 1)]])
        self.has_fault(("envy", 0, 0), Table([2, 2], [[2, 1], [1, 2]], 4), [[(1, 1)], [(0, 1)]])

    def test_a_desk_with_a_free_place_costs_nothing(self):
        table = Table([2, 1], [[1, 1], [1, 1], [1, 1]], 4)
        self.is_sound((0, -1, -1), (0, 0), table, [[(0, 1)], []])
        self.has_fault(("envy", 0, 1), table, [[(0, 2)], []])
        self.has_fault(("envy", 2, 0), table, [[(0, 1)], [(2, 2)]])
        self.is_sound((0, 0, 1), (1, 2), table, [[(0, 1), (1, 3)], [(2, 2)]])
        self.has_fault(("envy", 2, 0), table, [[(0, 1), (1, 3)], [(2, 3)]])
        self.has_fault(("envy", 1, 1), table, [[(0, 1), (1, 4)], [(2, 2)]])

    def test_twice_comes_ahead_of_envy(self):
        table = Table([1, 1, 1], [[1, 3, 0], [1, 1, 1]], 4)
        self.has_fault(("twice", 1), table, [[(0, 0)], [(1, 0)], [(1, 0)]])


class SoundStartTest(StartTest):
    def test_no_entries(self):
        self.is_sound((-1, -1, -1), (0, 0), example(), [[], []])
        self.is_sound((), (0, 0, 0), Table([1, 2, 3], [], 1), [[], [], []])

    def test_entries(self):
        self.is_sound((1, 0, -1), (0, 5), Table([2, 1], [[1, 2], [2, 1], [1, 1]], 3), [[(1, 0)], [(0, 5)]])
        self.is_sound((0, -1, 0), (6,), Table([2], [[1], [2], [1]], 3), [[(0, 7), (2, 6)]])
        self.is_sound((0, -1, 0), (0,), Table([3], [[1], [2], [1]], 3), [[(0, 7), (2, 6)]])

    def test_cold(self):
        self.answers(True, is_cold, example(), [[], []])
        self.answers(False, is_cold, example(), [[(0, 0)], []])
        self.answers(False, is_cold, example(), [[], [(2, 5)]])
        self.answers(True, is_cold, Table([1], [], 1), [[]])

    def test_cold_does_not_look_for_faults(self):
        self.answers(False, is_cold, example(), [[(2, 9999), (1, 0), (1, 0)], []])

    def test_by_name(self):
        start = [[(0, 30)], [(1, 20)]]
        self.answers(None, start_fault, table=example(), start=start)
        self.answers((0, 1, -1), start_held, table=example(), start=start)
        self.answers((30, 20), start_prices, table=example(), start=start)
        self.answers(False, is_cold, table=example(), start=start)


class StartRefusalsTest(Case):
    def test_lengths(self):
        for length in (0, 1, 3, 50):
            for ask in ASKS:
                self.refuses(OutOfRange("start", length), ask, example(), [[(9, -1)]] * length)

    def test_seekers(self):
        for wrong in (-1, 3, 30, HUGE, -HUGE):
            for ask in ASKS:
                self.refuses(OutOfRange("seeker", wrong), ask, example(), [[(wrong, -1)], []])
                self.refuses(OutOfRange("seeker", wrong), ask, example(), [[(0, 0), (0, 0)], [(wrong, 0), (0, -1)]])

    def test_amounts(self):
        for wrong in (-1, 10000, HUGE, -HUGE):
            for ask in ASKS:
                self.refuses(OutOfRange("amount", wrong), ask, example(), [[(0, wrong), (9, 0)], []])
                self.refuses(OutOfRange("amount", wrong), ask, example(), [[(2, 0), (1, 0)], [(0, 9999), (1, wrong)]])

    def test_entry_by_entry(self):
        for ask in ASKS:
            self.refuses(OutOfRange("amount", -1), ask, example(), [[(0, -1)], [(7, 0)]])
            self.refuses(OutOfRange("seeker", 7), ask, example(), [[(7, -1)], [(0, -1)]])

    def test_number_and_order_are_left_to_the_fault(self):
        self.answers(("places", 0), start_fault, example(), [[(2, 0)] * 12, []])
        self.answers(("order", 0), start_fault, Table([9], [[1]], 1), [[(0, 0)] * 9])
        self.answers(("places", 0), start_fault, Table([9], [[1]], 1), [[(0, 0)] * 10])


class StartOfTest(Case):
    def test_made(self):
        self.answers((((0, 30),), ((1, 20),)), start_of, example(), [0, 1, -1], [3, 2])
        self.answers((((0, 30),), ((2, 20),)), start_of, example(), [0, -1, 1], [3, 2])
        self.answers((((0, 40),), ((2, 20),)), start_of, example(), [0, -1, 1], [4, 2])
        self.answers(((), ()), start_of, Table([1, 1], [], 3), [], [0, 0])
        table = Table([2, 1], [[1, 9], [9, 1], [9, 1]], 5)
        self.answers((((1, 24), (2, 24)), ((0, 60),)), start_of, table, [1, 0, 0], [2, 5])
        self.answers((((0, 34 * 99),),), start_of, Table([1], [[99]], 30), [0], [99])

    def test_it_has_no_fault(self):
        table = Table([1, 2], [[2, 1], [1, 2], [2, 2], [1, 1]], 4)
        made = 0
        for held in product((-1, 0, 1), repeat=4):
            for prices in product(range(4), repeat=2):
                fault = judge(table, held, prices)
                if fault is None:
                    made += 1
                    start = start_of(table, held, prices)
                    self.assertIsNone(start_fault(table, start))
                    self.assertEqual(start_held(table, start), held)
                    self.assertEqual(start_prices(table, start), tuple(11 * price for price in prices))
                else:
                    self.refuses(NotAccepted(fault), start_of, table, held, prices)
        self.assertGreater(made, 2)

    def test_not_accepted(self):
        self.refuses(NotAccepted(("envy", 2, 1)), start_of, example(), [0, 1, -1], [2, 1])
        self.refuses(NotAccepted(("desk", 0)), start_of, example(), [0, 0, -1], [3, 2])
        self.refuses(NotAccepted(("free", 1)), start_of, example(), [0, -1, -1], [3, 2])
        self.refuses(NotAccepted(("seeker", 0)), start_of, Table([1], [[0]], 1), [0], [0])
        self.refuses(NotAccepted(("envy", 0, -1)), start_of, example(), [0, 1, -1], [5, 2])

    def test_by_name(self):
        self.answers((((0, 30),), ((1, 20),)), start_of, table=example(), held=[0, 1, -1], prices=[3, 2])

    def test_refusals(self):
        self.refuses(OutOfRange("held", 2), start_of, example(), [9, 9], [])
        self.refuses(OutOfRange("desk", 2), start_of, example(), [0, 0, 2], [])
        self.refuses(OutOfRange("desk", -2), start_of, example(), [-2, 0, 0], [0])
        self.refuses(OutOfRange("prices", 1), start_of, example(), [0, 0, 0], [-1])
        self.refuses(OutOfRange("price", -1), start_of, example(), [0, 0, 0], [0, -1])
        self.refuses(OutOfRange("price", 10000), start_of, example(), [0, 0, 0], [10000, -1])
