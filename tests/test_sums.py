from heldbest.errors import OutOfRange
from heldbest.sums import text_sum
from tests.helping import Case


class TextSumTest(Case):
    def test_short_strings(self):
        self.answers(0, text_sum, "")
        self.answers(97, text_sum, "a")
        self.answers(32, text_sum, " ")
        self.answers(10, text_sum, text="\n")
        self.answers(97 + 2 * 98, text_sum, "ab")
        self.answers(98 + 2 * 97, text_sum, "ba")

    def test_the_sums_of_the_examples(self):
        self.answers(2105, text_sum, "take 1 1")
        self.answers(3759, text_sum, "head 0 0 1 0")
        self.answers(4338, text_sum, "head 0 0 -1 0")

    def test_the_order_of_characters(self):
        for text in ("take 1 2", "12", "abc", "head 0 0 1 0"):
            for at in range(len(text) - 1):
                if text[at] != text[at + 1]:
                    swapped = text[:at] + text[at + 1] + text[at] + text[at + 2:]
                    self.assertNotEqual(text_sum(swapped), text_sum(text))

    def test_long_strings(self):
        for many in (80, 81, 9972, 9973, 9974, 20000):
            total = 126 * many * (many + 1) // 2
            self.answers(total - total // 9973 * 9973, text_sum, "~" * many)
        self.answers(0, text_sum, "a" * 9972)
        text = "take 1 2\tx~\n" * 1000
        self.answers(sum((at + 1) * ord(character) for at, character in enumerate(text)) % 9973, text_sum, text)

    def test_too_long(self):
        self.refuses(OutOfRange("text", 20001), text_sum, "a" * 20001)
