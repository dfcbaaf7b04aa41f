from heldbest.columns import columns
from tests.helping import Case

HEAD = " seeker   desk  worth   bill   gain"


class ColumnsTest(Case):
    def test_no_lines(self):
        last = " " * 14 + "      0      0      0"
        self.answers((HEAD, last), columns, ())
        self.answers((HEAD, last), columns, lines=[])

    def test_a_ledger(self):
        lines = ((0, 0, 4, 3, 1), (1, -1, 0, 0, 0), (29, 5, 99, 98, 1))
        self.answers((
            HEAD,
            "      0      0      4      3      1",
            "      1     -1      0      0      0",
            "     29      5     99     98      1",
            "                  103    101      2",
        ), columns, lines)
        self.assertTrue(all(len(line) == 35 for line in columns(lines)))

    def test_numbers_below_0(self):
        self.answers((
            HEAD,
            "     -1     -2     -3     -4-123456",
            "      0      0      1    -96  23456",
            "                   -2   -100-100000",
        ), columns, ((-1, -2, -3, -4, -123456), (0, 0, 1, -96, 23456)))

    def test_wide_numbers(self):
        for digits in range(1, 31):
            for sign in ("", "-"):
                number = sign + "9" * digits
                wide = number.rjust(7)
                self.answers((HEAD, wide + "      1" + wide * 2 + "      5", " " * 14 + wide * 2 + "      5"),
                             columns, ((int(number), 1, int(number), int(number), 5),))
        self.assertEqual(len(columns([(1234567, 12345678, 0, 0, 0)])[1]), 36)
        self.assertEqual(columns([(1234567, 12345678, 0, 0, 0)])[1], "123456712345678      0      0      0")

    def test_wide_sums(self):
        big = 10 ** 30 - 1
        told = columns([(0, 0, big, -big, 600000), (1, 0, big, -big, 600000)])
        self.assertEqual(told[-1], " " * 14 + "1" + "9" * 29 + "8" + "-1" + "9" * 29 + "8" + "1200000")
