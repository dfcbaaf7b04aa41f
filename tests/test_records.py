from heldbest.errors import BadWord, OutOfRange
from heldbest.records import read_records, write_record
from heldbest.sums import text_sum
from tests.helping import Case

TAKE = "take 1 1 2105\n"
HEAD = "head 0 0 1 0 3759\n"
SHORT = "a 0097\n"
THREE = HEAD + TAKE + SHORT
RECORDS = (("head", "0", "0", "1", "0"), ("take", "1", "1"), ("a",))


class WriteRecordTest(Case):
    def test_the_records_of_the_examples(self):
        self.answers(TAKE, write_record, ["take", "1", "1"])
        self.answers(HEAD, write_record, words=["head", "0", "0", "1", "0"])
        self.answers("head 0 0 -1 0 4338\n", write_record, ["head", "0", "0", "-1", "0"])

    def test_sums_below_1000(self):
        self.answers(SHORT, write_record, ["a"])
        self.answers("ab 0293\n", write_record, ["ab"])
        self.answers("- 0045\n", write_record, ["-"])
        self.answers("z" * 154 + " 0012\n", write_record, ["z" * 154])
        told = [write_record(["z" * many]) for many in range(1, 2500)]
        self.assertTrue(any(record[-6:-2] == " 000" for record in told))
        for record in told:
            self.assertEqual(record[-6:], f" {text_sum(record[:-6]):04d}\n")

    def test_every_character_of_words(self):
        words = ["abcdefghijklmnopqrstuvwxyz", "0123456789", "-", "--", "-0", "a-1"]
        body = " ".join(words)
        self.answers(f"{body} {text_sum(body):04d}\n", write_record, words)
        self.answers(((tuple(words),), False), read_records, write_record(words))

    def test_how_many_words(self):
        for many in (1, 2, 99, 100):
            words = ["x" + str(at) for at in range(many)]
            self.assertEqual(write_record(words)[:-6], " ".join(words))
            self.answers(((tuple(words),), False), read_records, write_record(words))
        for many in (0, 101, 102, 1000):
            self.refuses(OutOfRange("words", many), write_record, ["x"] * many)
            self.refuses(OutOfRange("words", many), write_record, [""] * many)

    def test_wrong_words(self):
        wrongs = ["", "A", "tAke", "take ", " ", " take", "ta ke", "\n", "take\n", "\ttake", "+1", "1.5", "a_b", "1,2", "~",
                  "`", "{", "/", ":", "take\n1", "0:1"]
        for wrong in wrongs:
            self.refuses(BadWord(wrong), write_record, [wrong])
            self.refuses(BadWord(wrong), write_record, ["take", "1", wrong])
            self.refuses(BadWord(wrong), write_record, [wrong, "take", "X"])
            self.refuses(BadWord(wrong), write_record, ["a"] * 99 + [wrong])
        self.refuses(BadWord("B"), write_record, ["a", "B", "", "C"])


class ReadRecordsTest(Case):
    def test_what_is_written_is_read_back(self):
        self.answers(((), False), read_records, "")
        self.answers((RECORDS[:1], False), read_records, HEAD)
        self.answers((RECORDS, False), read_records, text=THREE)
        self.answers((RECORDS + RECORDS, False), read_records, THREE + THREE)

    def test_cut_behind_any_character(self):
        ends = (0, len(HEAD), len(HEAD + TAKE), len(THREE))
        for keep in range(len(THREE) + 1):
            many = len([end for end in ends[1:] if end <= keep])
            self.answers((RECORDS[:many], keep not in ends), read_records, THREE[:keep])

    def test_every_changed_character(self):
        for at, old in enumerate(THREE):
            many = THREE[:at].count("\n")
            for new in "a0-9 \nA":
                if new != old:
                    text = THREE[:at] + new + THREE[at + 1:]
                    self.answers((RECORDS[:many], True), read_records, text)

    def test_every_character_left_out_or_doubled(self):
        for at, old in enumerate(THREE):
            many = THREE[:at].count("\n")
            self.answers((RECORDS[:many], True), read_records, THREE[:at] + THREE[at + 1:])
            text = THREE[:at] + old + THREE[at:]
            many = len([line for line in text[:at + 2].split("\n")[:-1] if line + "\n" in (HEAD, TAKE, SHORT)])
            self.assertEqual(read_records(text)[0][:many], RECORDS[:many])
            self.assertTrue(read_records(text)[1])

    def test_lines_of_other_forms(self):
        wrongs = ["\n", "\n\n", " \n", "a\n", "0097\n", " 0000\n", " 0097\n", "a 97\n", "a 097\n", "a 00097\n", "a 10070\n",
                  "a 0098\n", "a  0097\n", " a 0097\n", "a 0097 \n", "a 0097\n\n", "a +097\n", "a 0097\t\n", "A 0065\n",
                  "a\t0097\n", "a 0097\na", "a 0097\n ", "a b\n", "a -097\n"]
        for wrong in wrongs:
            many = 1 if wrong.startswith("a 0097\n") else 0
            self.answers(((("a",),) * many, True), read_records, wrong)
            self.answers(((("a",),) * (many + 1), True), read_records, SHORT + wrong)
            self.answers(((("a",),) * many, True), read_records, wrong + SHORT)

    def test_right_sums_do_not_help_wrong_words(self):
        for body in ("A", "a  b", " a", "a ", "a.b", "", "a\tb"):
            self.answers(((), True), read_records, f"{body} {text_sum(body):04d}\n")

    def test_nothing_is_read_behind_what_is_torn(self):
        self.answers((RECORDS[:1], True), read_records, HEAD + "take 1" + TAKE)
        self.answers((RECORDS[:1], True), read_records, HEAD + "take 1 2 2105\n" + TAKE)
        self.answers((RECORDS[:1], True), read_records, HEAD + "\n" + TAKE)

    def test_the_example(self):
        self.answers(((("take", "1", "1"),), True), read_records, "take 1 1 2105\ntake 2 5 21")

    def test_many_words(self):
        for many in (101, 500, 5000):
            body = " ".join(["ab"] * many)
            self.answers(((("ab",) * many,), False), read_records, f"{body} {text_sum(body):04d}\n")

    def test_long_texts(self):
        text = SHORT * 2857
        self.assertEqual(len(text), 19999)
        self.answers(((("a",),) * 2857, False), read_records, text)
        self.answers(((("a",),) * 2857, True), read_records, text + "a")
        self.refuses(OutOfRange("text", 20001), read_records, text + "a ")
        self.refuses(OutOfRange("text", 20006), read_records, SHORT * 2858)
