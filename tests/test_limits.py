from heldbest import limits
from heldbest.errors import OutOfRange
from heldbest.limits import within
from tests.helping import Case

CONSTANTS = {
    "MOST_DESKS": 6,
    "MOST_SEEKERS": 30,
    "MOST_PLACES": 9,
    "MOST_WORTH": 99,
    "MOST_PRICE": 9999,
    "MOST_MEASURE": 100,
    "MOST_SLACK": 100,
    "MOST_ERA": 999,
    "MOST_SERIAL": 99999,
    "MOST_LETTERS": 200,
    "MOST_WORK": 4096,
    "MOST_BIDS": 1000,
    "MOST_TEXT": 20000,
}


class LimitsTest(Case):
    def test_the_constants(self):
        self.assertEqual(len(CONSTANTS), 13)
        for name, number in CONSTANTS.items():
            with self.subTest(name):
                self.assertEqual(getattr(limits, name), number)
                self.assertIs(type(getattr(limits, name)), int)

    def test_within_its_bounds(self):
        for number in (-2, -1, 0, 1, 6, 7):
            self.answers(None, within, "x", number, -2, 7)
        self.answers(None, within, "x", 5, 5, 5)
        self.answers(None, within, what="x", value=0, least=0, most=9)

    def test_beyond_its_bounds(self):
        for number in (-3, 8, -(10 ** 40), 10 ** 40):
            self.refuses(OutOfRange("tooth", number), within, "tooth", number, -2, 7)
        for number in (4, 6):
            self.refuses(OutOfRange("", number), within, "", number, 5, 5)
        self.refuses(OutOfRange("desk", 3), within, what="desk", value=3, least=0, most=2)

    def test_no_number_is_within_empty_bounds(self):
        for number in (-2, -1, 0, 1):
            self.refuses(OutOfRange("seeker", number), within, "seeker", number, 0, -1)
