from heldbest.errors import OutOfRange, Unread
from heldbest.tables import Table
from heldbest.tabletexts import read_table, write_table
from tests.helping import EXAMPLE, Case

TEXTS = {
    "most 1\nplaces 1": Table([1], [], 1),
    "most 3\nplaces 1 2\nrow 4 0": Table([1, 2], [[4, 0]], 3),
    EXAMPLE: Table([1, 1], [[4, 1], [3, 2], [2, 2]], 3),
    "most 30\nplaces 9 8 7 6 5 4" + "\nrow 99 0 10 1 98 9" * 30: Table(
        [9, 8, 7, 6, 5, 4], [[99, 0, 10, 1, 98, 9]] * 30, 30,
    ),
}


class WriteTest(Case):
    def test_written(self):
        for text, table in TEXTS.items():
            self.answers(text, write_table, table)
        self.answers("most 2\nplaces 3", write_table, table=Table([3], [], 2))


class ReadTest(Case):
    def test_read(self):
        for text, table in TEXTS.items():
            self.answers(table, read_table, text)
        self.answers(Table([3], [], 2), read_table, text="most 2\nplaces 3")

    def test_read_back(self):
        for table in (Table([1], [], 30), Table([2, 3], [[0, 0], [7, 99]], 2)):
            self.answers(table, read_table, write_table(table))

    def test_first_line_unread(self):
        for line in (
            "", "most", "most ", " most 3", "most  3", "most 3 ", "most 3 3", "Most 3", "mosts 3", "3", "most x",
            "most +3", "most 03", "most -0", "most 1000000", "most 3.", "most\t3", "most 3\t", "most 3 x", "places 1",
            "most,3", "most - 3", "most 1_0",
        ):
            self.refuses(Unread(1), read_table, line)
            self.refuses(Unread(1), read_table, line + "\nplaces 1\nrow 1")
            self.refuses(Unread(1), read_table, line + "\nplaces x\nrow x")

    def test_second_line_unread(self):
        for line in (
            "", "places", "places ", " places 1", "places  1", "places 1 ", "places 1  2", "place 1", "row 1", "1",
            "places x", "places 1 x", "places 01", "places +1", "places 1 -0", "places 1000000", "places\t1", "most 1",
        ):
            self.refuses(Unread(2), read_table, "most 3\n" + line)
            self.refuses(Unread(2), read_table, "most 3\n" + line + "\nrow x")

    def test_row_unread(self):
        for line in (
            "", "row", "row ", " row 1", "row  1", "row 1 ", "row 1  2", "rows 1", "places 1", "1", "row x", "row 1 x",
            "row 01", "row +1", "row -0", "row 1 1000000", "row\t1", "ROW 1", "row -", "row 1\t",
        ):
            self.refuses(Unread(3), read_table, "most 3\nplaces 1\n" + line)
            self.refuses(Unread(4), read_table, "most 3\nplaces 1\nrow 1\n" + line)
            self.refuses(Unread(4), read_table, "most 3\nplaces 1\nrow 1\n" + line + "\nrow x")

    def test_the_text_ends_too_early(self):
        self.refuses(Unread(2), read_table, "most 3")
        self.refuses(Unread(2), read_table, "most 99")
        self.refuses(Unread(1), read_table, "")

    def test_empty_lines(self):
        self.refuses(Unread(1), read_table, "\n" + EXAMPLE)
        self.refuses(Unread(6), read_table, EXAMPLE + "\n")
        self.refuses(Unread(3), read_table, "most 3\nplaces 1\n")
        self.refuses(Unread(2), read_table, "most 3\n\nplaces 1")
        self.refuses(Unread(1), read_table, "\n")
        self.refuses(Unread(2), read_table, "most 3\n")

    def test_an_example(self):
        self.refuses(Unread(3), read_table, "most 3\nplaces 1 1\nrow 4 01")

    def test_lines_in_another_order(self):
        self.refuses(Unread(1), read_table, "places 1\nmost 3\nrow 1")
        self.refuses(Unread(2), read_table, "most 3\nrow 1\nplaces 1")

    def test_form_ahead_of_bounds(self):
        self.refuses(Unread(3), read_table, "most 99\nplaces 0 1\nrow x")
        self.refuses(Unread(2), read_table, "most 99\nplaces")
        self.refuses(Unread(35), read_table, "most 0\nplaces 10" + "\nrow 100" * 32 + "\nraw 1")

    def test_bounds(self):
        self.refuses(OutOfRange("desks", 7), read_table, "most 99\nplaces 0 0 0 0 0 0 0\nrow 1")
        self.refuses(OutOfRange("places", 0), read_table, "most 99\nplaces 1 0\nrow 1 1")
        self.refuses(OutOfRange("places", -3), read_table, "most 99\nplaces -3\nrow 1 1")
        self.refuses(OutOfRange("places", 999999), read_table, "most 3\nplaces 999999")
        self.refuses(OutOfRange("seekers", 31), read_table, "most 99\nplaces 1" + "\nrow 1 1" * 31)
        self.refuses(OutOfRange("row", 2), read_table, "most 99\nplaces 1\nrow 1\nrow 1 100")
        self.refuses(OutOfRange("row", 1), read_table, "most 3\nplaces 1 1\nrow 1")
        self.refuses(OutOfRange("worth", 100), read_table, "most 99\nplaces 1\nrow 100")
        self.refuses(OutOfRange("worth", -1), read_table, "most 99\nplaces 1\nrow -1")
        self.refuses(OutOfRange("most", 99), read_table, "most 99\nplaces 1\nrow 1")
        self.refuses(OutOfRange("most", -999999), read_table, "most -999999\nplaces 1\nrow 1")
        self.refuses(OutOfRange("most", 1), read_table, "most 1\nplaces 1\nrow 1\nrow 1")
        self.refuses(OutOfRange("most", 0), read_table, "most 0\nplaces 1")

    def test_long_texts(self):
        head = "most 3\nplaces 11"
        longest = head + " 1" * ((20000 - len(head)) // 2)
        self.assertEqual(len(longest), 20000)
        self.refuses(OutOfRange("desks", len(longest.split(" ")) - 2), read_table, longest)
        self.refuses(OutOfRange("text", 20001), read_table, longest + "1")
        self.refuses(Unread(1), read_table, "x" * 20000)
        self.refuses(OutOfRange("text", 20001), read_table, "x" * 20001)
        self.refuses(OutOfRange("text", 50000), read_table, "\n" * 50000)
        self.refuses(Unread(1), read_table, "\n" * 20000)
