from heldbest.errors import OutOfRange, Unread
from heldbest.letters import address, bid_letter, read_letter, told_letter, write_letter
from tests.helping import HUGE, Case

BID = ("bid", 0, 2, 1, 5)
TOLD = ("told", 0, 1, 2, 7, 31, -1)
GREATEST_BID = ("bid", 999, 29, 5, 9999)
GREATEST_TOLD = ("told", 999, 5, 29, 99999, 9999, 9999)
LEAST_BID = ("bid", 0, 0, 0, 0)
LEAST_TOLD = ("told", 0, 0, 0, 0, 0, -1)
LETTERS = (BID, TOLD, GREATEST_BID, GREATEST_TOLD, LEAST_BID, LEAST_TOLD)

ITEMS = {
    "bid": (("era", 0, 999), ("seeker", 0, 29), ("desk", 0, 5), ("amount", 0, 9999)),
    "told": (
        ("era", 0, 999), ("desk", 0, 5), ("seeker", 0, 29), ("serial", 0, 99999), ("price", 0, 9999), ("own", -1, 9999),
    ),
}
MADE_BY = {"bid": bid_letter, "told": told_letter}


class LettersTest(Case):
    def test_letters(self):
        for letter in LETTERS:
            self.answers(letter, MADE_BY[letter[0]], *letter[1:])
        self.answers(BID, bid_letter, era=0, seeker=2, desk=1, amount=5)
        self.answers(TOLD, told_letter, era=0, desk=1, seeker=2, serial=7, price=31, own=-1)

    def test_address(self):
        self.answers(("desk", 1), address, BID)
        self.answers(("seeker", 2), address, TOLD)
        self.answers(("desk", 5), address, GREATEST_BID)
        self.answers(("seeker", 29), address, GREATEST_TOLD)
        self.answers(("desk", 0), address, letter=LEAST_BID)

    def test_lines(self):
        self.answers("bid 0 2 1 5", write_letter, BID)
        self.answers("told 0 1 2 7 31 -1", write_letter, TOLD)
        self.answers("bid 999 29 5 9999", write_letter, GREATEST_BID)
        self.answers("told 999 5 29 99999 9999 9999", write_letter, letter=GREATEST_TOLD)

    def test_what_is_written_is_read_back(self):
        for letter in LETTERS:
            self.answers(letter, read_letter, write_letter(letter))
            self.answers(letter, read_letter, text=write_letter(letter))

    def test_each_bound(self):
        for kind, items in ITEMS.items():
            for at, (word, least, greatest) in enumerate(items):
                for number in (least, greatest):
                    numbers = [0] * len(items)
                    numbers[at] = number
                    self.answers((kind, *numbers), MADE_BY[kind], *numbers)
                    self.answers((kind, *numbers), read_letter, " ".join([kind, *map(str, numbers)]))
                for number in (least - 1, greatest + 1):
                    # What stands behind a wrong item may be wrong, too.
                    numbers = [0] * at + [number] + [-9] * (len(items) - at - 1)
                    self.refuses(OutOfRange(word, number), MADE_BY[kind], *numbers)
                    self.refuses(OutOfRange(word, number), read_letter, " ".join([kind, *map(str, numbers)]))
                for number in (HUGE, -HUGE):
                    numbers = [0] * at + [number] + [-9] * (len(items) - at - 1)
                    self.refuses(OutOfRange(word, number), MADE_BY[kind], *numbers)

    def test_six_digits(self):
        self.refuses(OutOfRange("era", 999999), read_letter, "bid 999999 0 0 0")
        self.refuses(OutOfRange("own", -999999), read_letter, "told 0 0 0 0 0 -999999")
        self.refuses(Unread(1), read_letter, "bid 1000000 0 0 0")
        self.refuses(Unread(1), read_letter, "told 0 0 0 0 0 -1000000")

    def test_lines_of_another_form(self):
        for text in (
            "", " ", "\n", "bid", "told", "bids 0 2 1 5", "Bid 0 2 1 5", "0 2 1 5", "bid 0 2 1", "bid 0 2 1 5 0",
            "told 0 1 2 7 31", "told 0 1 2 7 31 -1 0", "bid 0 1 2 7 31 -1", "told 0 2 1 5", "bid  0 2 1 5",
            " bid 0 2 1 5", "bid 0 2 1 5 ", "bid 0 2 1 5\n", "\nbid 0 2 1 5", "bid 0 2 1\n5", "bid 0 2 1 5\nbid 0 2 1 5",
            "bid\t0 2 1 5", "bid 0 2 1 05", "bid 0 2 1 -0", "bid 0 2 1 +5", "bid 0 2 1 x", "bid 0 2 1 ", "bid 0 2 1 -",
            "bid 0 2 1 5.0", "told 0 1 2 7 31 --1", "told 0 1 2 7 31 -01", "bid,0,2,1,5", "told bid 0 2 1 5 0",
        ):
            self.refuses(Unread(1), read_letter, text)

    def test_the_form_is_looked_at_ahead_of_bounds(self):
        self.refuses(Unread(1), read_letter, "bid 1000 30 6 x")
        self.refuses(Unread(1), read_letter, "bid 1000 30 6")
        self.refuses(OutOfRange("era", 1000), read_letter, "bid 1000 30 6 10000")

    def test_long_texts(self):
        self.refuses(Unread(1), read_letter, "x" * 20000)
        self.refuses(OutOfRange("text", 20001), read_letter, "x" * 20001)
        self.refuses(Unread(1), read_letter, "bid 0 2 1 5" + " " * 19989)
        self.refuses(OutOfRange("text", 20001), read_letter, "bid 0 2 1 5" + " " * 19990)
