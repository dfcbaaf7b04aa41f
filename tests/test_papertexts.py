from heldbest.errors import OutOfRange, Unread
from heldbest.papertexts import read_paper, write_paper
from heldbest.tables import Table
from tests.helping import Case, example

HUGE = 10 ** 40
EMPTY = Table([1, 1], [], 1)

PAPERS = (
    (example(), (0, 1, -1), (3, 2), "held 0 1 -1\nprices 3 2"),
    (example(), (-1, -1, -1), (9999, 0), "held -1 -1 -1\nprices 9999 0"),
    (example(), (0, 0, 0), (10, 100), "held 0 0 0\nprices 10 100"),
    (EMPTY, (), (0, 7), "held\nprices 0 7"),
    (Table([1], [[1]], 1), (0,), (5,), "held 0\nprices 5"),
)


class WriteTest(Case):
    def test_written(self):
        for table, held, prices, text in PAPERS:
            self.answers(text, write_paper, table, held, prices)
        self.answers("held\nprices 0 7", write_paper, table=EMPTY, held=[], prices=[0, 7])

    def test_refusals(self):
        for length in (0, 2, 4):
            self.refuses(OutOfRange("held", length), write_paper, example(), [9] * length, [])
        for wrong in (-2, 2, HUGE, -HUGE):
            self.refuses(OutOfRange("desk", wrong), write_paper, example(), [0, wrong, 9], [])
        for length in (0, 1, 3):
            self.refuses(OutOfRange("prices", length), write_paper, example(), [0, 1, -1], [-1] * length)
        for wrong in (-1, 10000, HUGE, -HUGE):
            self.refuses(OutOfRange("price", wrong), write_paper, example(), [0, 1, -1], [wrong, -3])
            self.refuses(OutOfRange("price", wrong), write_paper, example(), [0, 1, -1], [0, wrong])


class ReadTest(Case):
    def unread(self, line, text, table=None):
        self.refuses(Unread(line), read_paper, table or example(), text)

    def test_read(self):
        for table, held, prices, text in PAPERS:
            self.answers((held, prices), read_paper, table, text)
            self.answers((held, prices), read_paper, table, write_paper(table, held, prices))
        self.answers(((), (0, 7)), read_paper, table=EMPTY, text="held\nprices 0 7")

    def test_first_line(self):
        for line in (
            "", "held ", " held", "held  0 1 -1", "held 0 1 -1 ", "held 0  1 -1", " held 0 1 -1", "hold 0 1 -1", "0 1 -1",
            "held 0 1 x", "held 0 1 01", "held 0 1 -0", "held 0 1 +1", "held 0 1 1000000", "held\t0 1 -1", "prices 3 2",
            "held 0 1 -", "Held 0 1 -1", "held 0 1 -01",
        ):
            self.unread(1, line)
            self.unread(1, line + "\nprices 3 2")
            self.unread(1, line + "\nprices x\n")

    def test_second_line(self):
        for line in (
            "", "prices", "prices ", " prices 3 2", "prices  3 2", "prices 3 2 ", "price 3 2", "3 2", "prices 3 x",
            "prices 03 2", "prices 3 +2", "prices -0 2", "prices 3 1000000", "prices\t3 2", "held 0 1 -1", "PRICES 3 2",
        ):
            self.unread(2, "held 0 1 -1\n" + line)
            self.unread(2, "held 0 1 -1\n" + line + "\nx")

    def test_it_ends_too_early(self):
        self.unread(1, "")
        self.unread(2, "held 0 1 -1")
        self.unread(2, "held")
        self.unread(2, "held 99 1000")

    def test_a_line_more(self):
        for more in ("", "x", "prices 3 2", "held 0 1 -1", "\n", " "):
            self.unread(3, "held 0 1 -1\nprices 3 2\n" + more)
        self.unread(1, "\nheld 0 1 -1\nprices 3 2")
        self.unread(2, "held 0 1 -1\n\nprices 3 2")

    def test_the_first_line_without_numbers(self):
        self.refuses(OutOfRange("held", 0), read_paper, example(), "held\nprices 3 2")
        self.unread(2, "held\nprices", EMPTY)
        self.refuses(OutOfRange("held", 1), read_paper, EMPTY, "held -1\nprices 3 2")

    def test_form_ahead_of_bounds(self):
        self.unread(2, "held 7\nprices 3 2x")
        self.unread(3, "held 7\nprices 3\n")
        self.unread(2, "held 0 1 2\nprices")

    def test_bounds(self):
        self.refuses(OutOfRange("held", 2), read_paper, example(), "held 9 9\nprices -1")
        self.refuses(OutOfRange("held", 4), read_paper, example(), "held 9 9 9 9\nprices -1")
        self.refuses(OutOfRange("desk", 2), read_paper, example(), "held 0 2 -9\nprices -1")
        self.refuses(OutOfRange("desk", -2), read_paper, example(), "held 0 0 -2\nprices -1")
        self.refuses(OutOfRange("desk", 999999), read_paper, example(), "held 999999 0 0\nprices 1 1")
        self.refuses(OutOfRange("prices", 1), read_paper, example(), "held 0 0 0\nprices -1")
        self.refuses(OutOfRange("prices", 3), read_paper, example(), "held 0 0 0\nprices -1 1 1")
        self.refuses(OutOfRange("price", -1), read_paper, example(), "held 0 0 0\nprices -1 10000")
        self.refuses(OutOfRange("price", 10000), read_paper, example(), "held 0 0 0\nprices 1 10000")

    def test_long_texts(self):
        tail = "\nprices 1 1"
        longest = "held 11" + " 1" * 9991 + tail
        self.assertEqual(len(longest), 20000)
        self.refuses(OutOfRange("held", 9992), read_paper, example(), longest)
        self.refuses(OutOfRange("text", 20001), read_paper, example(), longest.replace("11", "111", 1))
        self.unread(1, "x" * 20000)
        self.refuses(OutOfRange("text", 20001), read_paper, example(), "x" * 20001)
        self.refuses(OutOfRange("text", 90000), read_paper, example(), "\n" * 90000)
