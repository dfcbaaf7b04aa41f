from heldbest.errors import Unread
from heldbest.words import is_number, split_words
from tests.helping import Case

PRINTED = [chr(code) for code in range(32, 127)] + ["\t", "\n"]


class IsNumberTest(Case):
    def test_zero(self):
        self.answers(True, is_number, "0")

    def test_numbers_of_one_to_six_digits(self):
        for word in ("1", "9", "10", "42", "100", "307", "4096", "9999", "12345", "99999", "100000", "999999"):
            self.answers(True, is_number, word)
            self.answers(True, is_number, "-" + word)

    def test_every_number_up_to_a_thousand(self):
        for number in range(-1000, 1001):
            self.answers(True, is_number, str(number))

    def test_seven_digits_and_more(self):
        for word in ("1000000", "1234567", "9999999", "0000000", "1" * 40):
            self.answers(False, is_number, word)
            self.answers(False, is_number, "-" + word)

    def test_leading_zeros(self):
        for word in ("00", "01", "007", "000000", "000001", "012345", "-00", "-01", "-012345"):
            self.answers(False, is_number, word)

    def test_signs(self):
        for word in ("-0", "+0", "+5", "--5", "-+5", "+-5", "-", "+", "--", "5-", "5+", "1-2", "0-"):
            self.answers(False, is_number, word)

    def test_the_empty_string(self):
        self.answers(False, is_number, "")

    def test_another_character_at_any_place(self):
        for character in PRINTED:
            if character in "0123456789":
                continue
            self.answers(False, is_number, character)
            for at in range(4):
                word = "123"[:at] + character + "123"[at:]
                self.answers(character == "-" and at == 0, is_number, word)
                self.answers(False, is_number, "-" + word)
            for at in range(3):
                word = "123"[:at] + character + "123"[at + 1:]
                self.answers(character == "-" and at == 0, is_number, word)

    def test_what_python_reads_as_a_number(self):
        for word in (" 5", "5 ", "1_000", "5\n", "\t5", "0x10", "1e3", "1.0", "- 5"):
            self.answers(False, is_number, word)

    def test_by_name(self):
        self.answers(True, is_number, word="-12")


class SplitWordsTest(Case):
    def test_words(self):
        self.answers(("rest",), split_words, "rest")
        self.answers(("fall", "desk", "1", "12"), split_words, "fall desk 1 12")
        self.answers(("-", "0:10,2:10"), split_words, "- 0:10,2:10")
        self.answers(("a", "b"), split_words, line="a b")

    def test_two_spaces(self):
        for line in ("a  b", "a b  c", "a   b", "a  b  c"):
            self.refuses(Unread(1), split_words, line)

    def test_spaces_at_the_ends(self):
        for line in (" a", "a ", " a ", "a b ", " a b", " ", "  "):
            self.refuses(Unread(1), split_words, line)

    def test_the_empty_line(self):
        self.refuses(Unread(1), split_words, "")

    def test_tabs_are_no_spaces(self):
        self.answers(("a\tb",), split_words, "a\tb")
        self.answers(("\t",), split_words, "\t")
        self.answers(("\ta", "b\t"), split_words, "\ta b\t")
        self.answers(("a", "\t", "b"), split_words, "a \t b")
