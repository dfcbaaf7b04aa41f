from heldbest.edits import placed
from heldbest.errors import OutOfRange
from heldbest.judging import judge
from heldbest.plain import plain_best, plain_bests
from heldbest.seats import value
from heldbest.solving import best_value, solve
from heldbest.tables import Table
from tests.helping import Case, example
from tests.plainly import every_lot, plain_least, plain_value, some_tables

SMALL = [example(), *some_tables(17, 40)]
WIDE = Table([1] * 6, [[(7 * seeker + 5 * desk) * 31 % 100 for desk in range(6)] for seeker in range(30)], 30)
BROAD = Table([9] * 6, [[(11 * seeker * desk + 3 * seeker + desk) % 100 for desk in range(6)] for seeker in range(30)], 30)
MIDDLE = Table([2, 3, 1, 2, 1, 2], WIDE.rows, 30)


class SolveTest(Case):
    def test_every_lot_of_small_tables(self):
        for table in SMALL:
            for lot in every_lot(table):
                held, row = solve(table, lot)
                self.assertIn(held, plain_bests(table, lot))
                self.assertEqual(row, plain_least(table, lot))
                self.answers(plain_best(table, lot)[0], best_value, table, lot)
                self.answers((held, row), solve, table, lot)

    def test_none_is_the_list_of_all_seekers(self):
        for table in [*SMALL, WIDE, MIDDLE]:
            everybody = list(range(table.seekers))
            same = Table(table.places, table.rows, table.most)
            self.answers(solve(table), solve, table, None)
            self.answers(solve(table), solve, table, everybody)
            self.answers(solve(table), solve, same, everybody)
            self.answers(best_value(table), best_value, same, None)
            self.answers(best_value(table), best_value, same, everybody)

    def test_the_same_answer_each_time(self):
        table = Table([2, 2], [[1, 1]] * 6, 6)
        first = solve(table)
        for other in SMALL:
            solve(other)
        self.answers(first, solve, table)
        self.answers(solve(table, [1, 3, 4]), solve, Table([2, 2], [[1, 1]] * 6, 6), [1, 3, 4])

    def test_the_example(self):
        self.assertIn(solve(example()), (((0, 1, -1), (3, 2)), ((0, -1, 1), (3, 2))))
        self.answers(6, best_value, example())
        self.answers(((-1, 0, -1), (0, 0)), solve, example(), [1])

    def test_nobody(self):
        self.answers(((), (0, 0)), solve, Table([1, 9], [], 1))
        self.answers(0, best_value, Table([1, 9], [], 1))
        self.answers(((-1, -1, -1), (0, 0)), solve, example(), [])
        self.answers(0, best_value, example(), [])

    def test_all_worths_zero(self):
        table = Table([1, 2], [[0, 0]] * 3, 3)
        self.answers(((-1, -1, -1), (0, 0)), solve, table)
        self.answers(0, best_value, table)

    def test_more_places_than_seekers(self):
        self.answers(((0, 0), (0, 0)), solve, Table([9, 9], [[5, 4], [99, 0]], 30))
        self.answers(104, best_value, Table([9, 9], [[5, 4], [99, 0]], 30))
        self.answers(((1, 0), (0, 0)), solve, Table([3, 3], [[0, 1], [1, 0]], 2))

    def test_a_seeker_displaces_another_one(self):
        table = Table([1, 1, 1], [[9, 8, 0], [9, 0, 8], [9, 0, 0], [0, 0, 1]], 4)
        self.answers(((1, 2, 0, -1), (2, 0, 1)), solve, table)

    def test_outside_of_the_lot_nobody_counts(self):
        table = Table([1], [[99], [5], [98], [4]], 4)
        self.answers(((-1, 0, -1, -1), (4,)), solve, table, [1, 3])

    def test_tables_of_six_desks_and_thirty_seekers(self):
        for table in (WIDE, BROAD, MIDDLE):
            for lot in (None, [], [29], list(range(0, 30, 2)), list(range(7, 30))):
                held, row = solve(table, lot)
                # The judge accepts best assignments only.
                self.assertIsNone(judge(table, held, row, lot=lot))
                self.assertEqual(best_value(table, lot), value(table, held))
                for desk, count in enumerate(table.places):
                    if count < 9:
                        more = best_value(placed(table, desk, count + 1), lot)
                        self.assertEqual(row[desk], more - best_value(table, lot))
        for table in (WIDE, MIDDLE):
            self.assertEqual(best_value(table), plain_value(table))
            self.assertEqual(solve(table)[1], plain_least(table))

    def test_by_name(self):
        self.answers(((-1, 0, -1), (0, 0)), solve, table=example(), lot=[1])
        self.answers(3, best_value, table=example(), lot=[1])

    def test_refusals(self):
        self.refuses_lots(solve, [example()])
        self.refuses_lots(best_value, [example()])
        self.refuses(OutOfRange("seeker", 0), solve, Table([1], [], 1), [0])
        self.refuses(OutOfRange("seeker", 0), best_value, Table([1], [], 1), [0])


class BestValueFactsTest(Case):
    def test_a_further_seeker_brings_less_beside_others(self):
        for table in SMALL[:25]:
            for lot in every_lot(table):
                for one in range(table.seekers):
                    for two in range(table.seekers):
                        if one != two and one not in lot and two not in lot:
                            with_one, with_two = sorted([*lot, one]), sorted([*lot, two])
                            both = sorted([*lot, one, two])
                            alone = best_value(table, with_two) - best_value(table, lot)
                            self.assertLessEqual(best_value(table, both) - best_value(table, with_one), alone)

    def test_a_further_seeker_brings_no_less_with_a_further_place(self):
        for table in SMALL[:25]:
            for desk, count in enumerate(table.places):
                wider = placed(table, desk, count + 1)
                for lot in every_lot(table):
                    for seeker in lot:
                        others = [other for other in lot if other != seeker]
                        grown = best_value(wider, lot) - best_value(wider, others)
                        self.assertGreaterEqual(grown, best_value(table, lot) - best_value(table, others))

    def test_a_further_place_brings_less_beside_others(self):
        for table in SMALL:
            for one, count in enumerate(table.places):
                wider = placed(table, one, count + 1)
                for two in range(table.desks):
                    both = placed(wider, two, wider.places[two] + 1)
                    alone = best_value(placed(table, two, table.places[two] + 1)) - best_value(table)
                    self.assertLessEqual(best_value(both) - best_value(wider), alone)
