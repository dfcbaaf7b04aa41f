from heldbest.errors import OutOfRange
from heldbest.tables import Table
from tests.helping import Case, example, shown

HUGE = 10 ** 40


class TableTest(Case):
    def test_fields_and_properties(self):
        for places, rows, most in (
            ([1], [], 1),
            ([1, 2], [[4, 0]], 3),
            ((9, 1, 9, 1, 9, 1), [(0, 1, 2, 3, 4, 99)] * 30, 30),
            ([3], [[0], (99,)], 30),
        ):
            table = Table(places, rows, most)
            self.assertEqual(shown(table.places), shown(tuple(places)))
            self.assertEqual(shown(table.rows), shown(tuple(tuple(row) for row in rows)))
            self.assertEqual(table.most, most)
            self.assertEqual(table.desks, len(places))
            self.assertEqual(table.seekers, len(rows))
            self.assertEqual(table.scale, most + 3 * len(places) + 1)

    def test_step(self):
        self.assertEqual(Table.STEP, 3)
        self.assertEqual(example().STEP, 3)

    def test_scale_does_not_depend_on_the_seekers(self):
        self.assertEqual(example().scale, 10)
        self.assertEqual(Table([1, 1], [], 3).scale, 10)
        self.assertEqual(Table([9] * 6, [], 30).scale, 49)
        self.assertEqual(Table([1], [[1]], 1).scale, 5)

    def test_by_name(self):
        table = Table(places=[1, 2], rows=[[4, 0]], most=3)
        self.assertEqual(shown(table), "Table((1, 2, ), ((4, 0, ), ), 3)")

    def test_later_changes_have_no_effect(self):
        places, rows = [1, 2], [[4, 0], [3, 3]]
        table = Table(places, rows, 3)
        places[0] = 7
        places.append(7)
        rows[0][0] = 7
        rows[1].append(7)
        rows.append([7, 7])
        self.assertEqual(shown(table), "Table((1, 2, ), ((4, 0, ), (3, 3, ), ), 3)")
        self.assertEqual((places, rows), ([7, 2, 7], [[7, 0], [3, 3, 7], [7, 7]]))

    def test_methods_are_the_class_s_own(self):
        for name in ("worth", "weight", "desks", "seekers", "scale", "STEP", "__init__"):
            self.assertIn(name, vars(Table))


class TableRefusalsTest(Case):
    def test_desks(self):
        self.refuses(OutOfRange("desks", 0), Table, [], [], 1)
        self.refuses(OutOfRange("desks", 7), Table, [1] * 7, [], 1)
        self.refuses(OutOfRange("desks", 500), Table, [1] * 500, [], 1)
        for desks in range(1, 7):
            self.assertEqual(Table([1] * desks, [], 1).desks, desks)

    def test_places(self):
        for wrong in (0, -1, 10, HUGE, -HUGE):
            self.refuses(OutOfRange("places", wrong), Table, [wrong], [], 1)
            self.refuses(OutOfRange("places", wrong), Table, [1, 9, wrong, 1], [], 1)
            self.refuses(OutOfRange("places", wrong), Table, [1, wrong, -5], [], 1)

    def test_seekers(self):
        self.refuses(OutOfRange("seekers", 31), Table, [1], [[1]] * 31, 30)
        self.refuses(OutOfRange("seekers", 400), Table, [1], [[1]] * 400, 30)
        self.assertEqual(Table([1], [[1]] * 30, 30).seekers, 30)

    def test_row(self):
        self.refuses(OutOfRange("row", 1), Table, [1, 1], [[1]], 3)
        self.refuses(OutOfRange("row", 3), Table, [1, 1], [[1, 1], [1, 2, 3]], 3)
        self.refuses(OutOfRange("row", 0), Table, [1, 1], [[1, 1], [1, 2], []], 3)

    def test_worth(self):
        for wrong in (-1, 100, HUGE, -HUGE):
            self.refuses(OutOfRange("worth", wrong), Table, [1, 1], [[wrong, 1]], 3)
            self.refuses(OutOfRange("worth", wrong), Table, [1, 1], [[0, 99], [3, wrong]], 3)
            self.refuses(OutOfRange("worth", wrong), Table, [1, 1], [[wrong, -7]], 3)

    def test_most(self):
        for wrong in (0, -1, 31, HUGE, -HUGE):
            self.refuses(OutOfRange("most", wrong), Table, [1], [], wrong)
        self.refuses(OutOfRange("most", 0), Table, [1], [[5]], 0)
        self.refuses(OutOfRange("most", 1), Table, [1], [[5], [5]], 1)
        self.refuses(OutOfRange("most", 29), Table, [1], [[5]] * 30, 29)
        self.refuses(OutOfRange("most", 31), Table, [1], [[5]] * 30, 31)
        self.assertEqual(Table([1], [[5], [5]], 2).most, 2)

    def test_two_wrong_things(self):
        self.refuses(OutOfRange("desks", 7), Table, [0] * 7, [[1]] * 31, 0)
        self.refuses(OutOfRange("desks", 0), Table, [], [[1]], 0)
        self.refuses(OutOfRange("places", 0), Table, [0], [[1]] * 31, 0)
        self.refuses(OutOfRange("places", 0), Table, [0, 1], [[1]], 3)
        self.refuses(OutOfRange("seekers", 31), Table, [1], [[]] * 31, 0)
        self.refuses(OutOfRange("row", 2), Table, [1], [[100, 100]], 0)
        self.refuses(OutOfRange("worth", 100), Table, [1], [[100]], 0)
        self.refuses(OutOfRange("worth", 100), Table, [1], [[100], [1, 2]], 2)
        self.refuses(OutOfRange("row", 2), Table, [1], [[1, 2], [100]], 2)
        self.refuses(OutOfRange("worth", -1), Table, [1, 1], [[1, -1], [100, 1]], 2)


class WorthTest(Case):
    def test_each_cell(self):
        rows = ((4, 0, 99), (3, 2, 1))
        table = Table([1, 2, 3], rows, 5)
        for seeker in range(2):
            for desk in range(3):
                self.answers(rows[seeker][desk], table.worth, seeker, desk)
                self.answers(15 * rows[seeker][desk], table.weight, seeker, desk)

    def test_no_desk(self):
        for seeker in range(3):
            self.answers(0, example().worth, seeker, -1)
            self.answers(0, example().weight, seeker, -1)

    def test_by_name(self):
        self.answers(1, example().worth, desk=1, seeker=0)
        self.answers(10, example().weight, desk=1, seeker=0)

    def test_refusals(self):
        for ask in (example().worth, example().weight):
            for wrong in (-1, 3, -2, HUGE, -HUGE):
                self.refuses(OutOfRange("seeker", wrong), ask, wrong, 0)
                self.refuses(OutOfRange("seeker", wrong), ask, wrong, -1)
            for wrong in (-2, 2, -3, HUGE, -HUGE):
                self.refuses(OutOfRange("desk", wrong), ask, 0, wrong)
            self.refuses(OutOfRange("seeker", 3), ask, 3, 2)
            self.refuses(OutOfRange("seeker", -1), ask, -1, -2)

    def test_nobody_is_there(self):
        empty = Table([1], [], 1)
        for ask in (empty.worth, empty.weight):
            self.refuses(OutOfRange("seeker", 0), ask, 0, 0)
            self.refuses(OutOfRange("seeker", -1), ask, -1, 0)
