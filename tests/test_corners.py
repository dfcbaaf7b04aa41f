from heldbest.corners import cell_use, corner
from heldbest.edits import valued
from heldbest.errors import OutOfRange
from heldbest.plain import plain_bests
from heldbest.solving import best_value
from heldbest.tables import Table
from tests.helping import Case, example
from tests.plainly import changed_places, plain_value, rows_of, some_tables, value_by_loads, without
from tests.test_solving import MIDDLE

SMALL = [example(), *some_tables(59, 25)]


def cells(table):
    return [(seeker, desk) for seeker in range(table.seekers) for desk in range(table.desks)]


def two_values(table, seeker, desk):
    """A and B of point 21."""
    unused = plain_value(valued(table, seeker, desk, 0))
    others = rows_of(table, without(table, seeker))
    return unused, value_by_loads(changed_places(table, desk, -1), others)


def plain_use(table, seeker, desk):
    uses = [held[seeker] == desk for held in plain_bests(table)]
    if all(uses):
        return 1
    return 0 if any(uses) else -1


class CornerTest(Case):
    def test_each_cell(self):
        for table in [*SMALL, Table([9, 1], [[k, 12 - k] for k in range(12)], 12)]:
            for seeker, desk in cells(table):
                unused, without_both = two_values(table, seeker, desk)
                self.answers(unused - without_both, corner, table, seeker, desk)
                self.assertGreaterEqual(unused, without_both)

    def test_a_great_table(self):
        for seeker, desk in ((0, 0), (13, 2), (29, 5)):
            unused, without_both = two_values(MIDDLE, seeker, desk)
            self.answers(unused - without_both, corner, MIDDLE, seeker, desk)

    def test_the_best_value_as_a_function_of_the_worth(self):
        for table in SMALL:
            for seeker, desk in cells(table):
                unused, without_both = two_values(table, seeker, desk)
                for worth in range(12):
                    expected = max(unused, without_both + worth)
                    self.assertEqual(best_value(valued(table, seeker, desk, worth)), expected)

    def test_it_does_not_depend_on_the_worth(self):
        for table in SMALL:
            for seeker, desk in cells(table):
                expected = corner(table, seeker, desk)
                for worth in (0, 1, 5, 99):
                    self.assertEqual(corner(valued(table, seeker, desk, worth), seeker, desk), expected)

    def test_the_example(self):
        self.answers(4, corner, example(), 2, 0)
        self.answers(4, corner, table=example(), seeker=2, desk=0)
        self.answers(0, corner, Table([1], [[0]], 1), 0, 0)
        self.answers(0, corner, Table([1], [[9]], 1), 0, 0)

    def test_refusals(self):
        for ask in (corner, cell_use):
            self.refuses_one("seeker", (-1, 3), ask, [example()], [0])
            self.refuses_one("seeker", (-1, 3), ask, [example()], [9])
            self.refuses_one("desk", (-1, 2), ask, [example(), 0])
            self.refuses(OutOfRange("seeker", 3), ask, example(), 3, 2)
            self.refuses(OutOfRange("seeker", 0), ask, Table([1], [], 1), 0, 0)


class CellUseTest(Case):
    def test_each_cell(self):
        for table in SMALL:
            for seeker, desk in cells(table):
                self.answers(plain_use(table, seeker, desk), cell_use, table, seeker, desk)

    def test_where_it_changes(self):
        for table in SMALL[:10]:
            for seeker, desk in cells(table):
                least = corner(table, seeker, desk)
                for worth in {0, max(0, least - 1), least, least + 1}:
                    changed = valued(table, seeker, desk, worth)
                    expected = -1 if worth == 0 or worth < least else int(worth > least)
                    self.answers(expected, cell_use, changed, seeker, desk)
                    self.assertEqual(plain_use(changed, seeker, desk), expected)

    def test_the_example(self):
        self.answers(-1, cell_use, example(), 2, 0)
        self.answers(1, cell_use, example(), 0, 0)
        self.answers(0, cell_use, example(), 1, 1)
        self.answers(0, cell_use, table=example(), seeker=2, desk=1)
        self.answers(-1, cell_use, Table([1], [[0]], 1), 0, 0)
        self.answers(1, cell_use, Table([1], [[1]], 1), 0, 0)
