from itertools import product

from heldbest.errors import OutOfRange, TooHeavy
from heldbest.listings import assignments, count_assignments, plain_work
from heldbest.plain import plain_best, plain_bests
from heldbest.tables import Table
from tests.helping import Case, example
from tests.plainly import every_lot

HUGE = 10 ** 40

TABLES = (
    Table([1], [], 1),
    Table([1], [[0], [3]], 2),
    Table([1, 1], [[4, 1], [3, 2], [2, 2]], 3),
    Table([2, 1], [[4, 0], [0, 0], [1, 5], [2, 2]], 9),
    Table([1, 1, 2], [[1, 1, 1], [0, 2, 1], [9, 9, 0]], 3),
)


def listed(table, lot=None):
    return tuple(assignments(table, lot))


def plain_list(table, lot):
    """All assignments of the lot, straight from their description."""
    found = []
    for held in product(range(-1, table.desks), repeat=table.seekers):
        seated = [(seeker, desk) for seeker, desk in enumerate(held) if desk != -1]
        if all(seeker in lot and table.rows[seeker][desk] >= 1 for seeker, desk in seated):
            if all(held.count(desk) <= table.places[desk] for desk in range(table.desks)):
                found.append(held)
    return tuple(sorted(found))


def plain_value(table, held):
    return sum(table.rows[seeker][desk] for seeker, desk in enumerate(held) if desk != -1)


class ListingsTest(Case):
    def test_every_lot(self):
        for table in TABLES:
            for lot in every_lot(table):
                expected = plain_list(table, lot)
                self.answers(expected, listed, table, lot)
                self.answers(len(expected), count_assignments, table, lot)
                self.answers((table.desks + 1) ** len(lot), plain_work, table, lot)

    def test_all_seekers(self):
        for table in TABLES:
            expected = plain_list(table, range(table.seekers))
            self.answers(expected, listed, table)
            self.answers(expected, listed, table, None)
            self.answers(len(expected), count_assignments, table)
            self.answers(len(expected), count_assignments, table, None)
            self.answers((table.desks + 1) ** table.seekers, plain_work, table)
            self.answers((table.desks + 1) ** table.seekers, plain_work, table, None)

    def test_by_name(self):
        expected = ((-1, -1, -1), (0, -1, -1), (1, -1, -1))
        self.assertEqual(tuple(assignments(table=example(), lot=[0])), expected)
        self.answers(3, count_assignments, table=example(), lot=[0])
        self.answers(3, plain_work, table=example(), lot=[0])

    def test_nobody(self):
        self.answers(((),), listed, TABLES[0])
        self.answers(1, count_assignments, TABLES[0])
        self.answers(1, plain_work, TABLES[0])
        self.answers(((-1, -1, -1),), listed, example(), [])

    def test_plain_work_is_never_refused(self):
        self.answers(7 ** 30, plain_work, Table([1] * 6, [[1] * 6] * 30, 30))
        self.answers(2 ** 30, plain_work, Table([1], [[0]] * 30, 30))

    def test_as_heavy_as_may_be(self):
        twelve = Table([1], [[1]] * 12, 30)
        self.answers(4096, plain_work, twelve)
        self.answers(13, count_assignments, twelve)
        self.assertEqual(len(listed(twelve)), 13)
        roomy = Table([9, 9, 9], [[1, 1, 1]] * 6, 30)
        self.answers(4096, count_assignments, roomy)
        self.answers(4096, plain_work, roomy)
        self.assertEqual(list(listed(roomy)), list(product((-1, 0, 1, 2), repeat=6)))
        many = Table([1], [[1]] * 30, 30)
        self.answers(13, count_assignments, many, list(range(18, 30)))

    def test_too_heavy(self):
        for ask in (listed, count_assignments, plain_best, plain_bests):
            self.refuses(TooHeavy(8192), ask, Table([1], [[0]] * 13, 30))
            self.refuses(TooHeavy(8192), ask, Table([1], [[1]] * 30, 30), list(range(13)))
            self.refuses(TooHeavy(6561), ask, Table([1, 1], [[1, 1]] * 8, 30), None)
            self.refuses(TooHeavy(7 ** 30), ask, Table([1] * 6, [[1] * 6] * 30, 30))

    def test_a_wrong_lot_comes_first(self):
        table = Table([1], [[1]] * 14, 30)
        for ask in (listed, count_assignments, plain_work, plain_best, plain_bests):
            for wrong in (-1, 14, HUGE, -HUGE):
                self.refuses(OutOfRange("seeker", wrong), ask, table, [wrong])
                self.refuses(OutOfRange("seeker", wrong), ask, table, [*range(13), wrong])
            self.refuses(OutOfRange("seeker", 12), ask, table, [*range(13), 12])
            self.refuses(OutOfRange("seeker", 3), ask, table, [4, 3])


class GeneratorTest(Case):
    def test_nothing_is_raised_before_the_iteration(self):
        for table, lot, error in (
            (example(), [7], OutOfRange), (example(), [1, 1], OutOfRange),
            (Table([1], [[1]] * 13, 30), None, TooHeavy),
        ):
            started = assignments(table, lot)
            with self.assertRaises(error):
                next(started)

    def test_it_gives_one_after_the_other(self):
        started = assignments(example())
        self.assertIs(iter(started), started)
        self.assertEqual(next(started), (-1, -1, -1))
        self.assertEqual(next(started), (-1, -1, 0))
        self.assertEqual(next(started), (-1, -1, 1))

    def test_arguments_are_taken_when_the_iteration_begins(self):
        lot = [0]
        started = assignments(example(), lot)
        lot[0] = 1
        self.assertEqual(tuple(started), ((-1, -1, -1), (-1, 0, -1), (-1, 1, -1)))
        wrong = [9]
        started = assignments(example(), wrong)
        wrong.pop()
        self.assertEqual(tuple(started), ((-1, -1, -1),))

    def test_later_changes_have_no_effect(self):
        lot = [0]
        started = assignments(example(), lot)
        found = [next(started)]
        lot[0] = 2
        lot.append(5)
        self.assertEqual([*found, *started], [(-1, -1, -1), (0, -1, -1), (1, -1, -1)])

    def test_two_iterations_at_once(self):
        pairs = [(one, two) for one in assignments(example(), [0]) for two in assignments(example(), [1])]
        self.assertEqual(len(pairs), 9)


class PlainTest(Case):
    def test_every_lot(self):
        for table in TABLES:
            for lot in [None, *every_lot(table)]:
                everyone = range(table.seekers) if lot is None else lot
                all_held = plain_list(table, everyone)
                best = max(plain_value(table, held) for held in all_held)
                bests = tuple(held for held in all_held if plain_value(table, held) == best)
                self.answers((best, bests[0]), plain_best, table, lot)
                self.answers(bests, plain_bests, table, lot)

    def test_without_a_lot(self):
        self.answers((6, (0, -1, 1)), plain_best, example())
        self.answers(((0, -1, 1), (0, 1, -1)), plain_bests, example())

    def test_by_name(self):
        self.answers((4, (-1, 0, -1)), plain_best, table=Table([1], [[1], [4], [4]], 3), lot=[0, 1])
        self.answers(((-1, -1, 0), (-1, 0, -1)), plain_bests, table=Table([1], [[1], [4], [4]], 3), lot=None)

    def test_nobody_wants_anything(self):
        self.answers((0, (-1, -1)), plain_best, Table([1], [[0], [0]], 2))
        self.answers(((-1, -1),), plain_bests, Table([1], [[0], [0]], 2))
        self.answers((0, (-1, -1, -1)), plain_best, example(), [])
