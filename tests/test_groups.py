import unittest

from padwright.errors import NoGroups
from padwright.groups import grouped, ungrouped
from things import SIGNS, refusal_of, texts_of

SIZES = range(10)
LONG = "".join(SIGNS)


def told_by_the_document(text, size, mark):
    """The text, sign by sign from its end, with a mark ahead of each size of signs but none at the front."""
    told = ""
    for count, sign in enumerate(reversed(text)):
        if size and count and count % size == 0:
            told = mark + told
        told = sign + told
    return told


class Grouping(unittest.TestCase):
    """2.1: grouped."""

    def test_the_documents_examples(self):
        self.assertEqual(grouped("1234567", 3, ","), "1,234,567")
        self.assertEqual(grouped("123456", 3, ","), "123,456")
        self.assertEqual(grouped("123456", 1, ","), "1,2,3,4,5,6")

    def test_ordinary(self):
        self.assertEqual(grouped("1", 3, ","), "1")
        self.assertEqual(grouped("123", 3, ","), "123")
        self.assertEqual(grouped("1234", 3, ","), "1,234")
        self.assertEqual(grouped("12345", 2, " "), "1 23 45")
        self.assertEqual(grouped("1234567890", 9, "'"), "1'234567890")

    def test_size_nought_is_the_text(self):
        for length in range(1, 41):
            for mark in (",", "0", LONG[0]):
                self.assertEqual(grouped(LONG[:length], 0, mark), LONG[:length])

    def test_all_sizes_and_lengths(self):
        for size in SIZES:
            for length in range(1, 41):
                for mark in (",", " ", "0", "f", LONG[0], LONG[length - 1], "~"):
                    text = LONG[:length]
                    self.assertEqual(grouped(text, size, mark), told_by_the_document(text, size, mark))

    def test_marks_that_are_the_texts_own(self):
        self.assertEqual(grouped(",,,,", 3, ","), ",,,,,")
        self.assertEqual(grouped("0000", 2, "0"), "00000")
        self.assertEqual(grouped("1,23,4", 3, ","), "1,2,3,4")
        self.assertEqual(grouped("aaaa", 1, "a"), "aaaaaaa")

    def test_somewhat_beyond_the_bound(self):
        self.assertEqual(grouped("1" * 41, 9, ","), "11111" + ",111111111" * 4)
        self.assertEqual(grouped("1" * 41, 0, ","), "1" * 41)


class Ungrouping(unittest.TestCase):
    """2.1: ungrouped."""

    def refused(self, text, size, mark):
        self.assertIs(refusal_of(ungrouped, text, size, mark), NoGroups, (text, size, mark))

    def test_ordinary(self):
        self.assertEqual(ungrouped("1,234,567", 3, ","), "1234567")
        self.assertEqual(ungrouped("123,456", 3, ","), "123456")
        self.assertEqual(ungrouped("1,2,3", 1, ","), "123")
        self.assertEqual(ungrouped("1", 3, ","), "1")
        self.assertEqual(ungrouped(",", 3, ","), ",")
        self.assertEqual(ungrouped("1,234", 0, ","), "1,234")
        self.assertEqual(ungrouped("1,,234", 3, ","), "1,234")

    def test_what_was_grouped_is_ungrouped(self):
        for size in SIZES:
            for length in range(1, 41):
                for mark in (",", " ", "0", LONG[0], LONG[length - 1], "~"):
                    for text in (LONG[:length], LONG[-length:], mark * length):
                        self.assertEqual(ungrouped(told_by_the_document(text, size, mark), size, mark), text)

    def test_every_mark(self):
        for mark in SIGNS:
            for text in ("1234567", mark * 7, "12" + mark + "4567", mark + "234567", "123456" + mark):
                self.assertEqual(ungrouped(text[0] + mark + text[1:4] + mark + text[4:], 3, mark), text)

    def test_all_short_texts(self):
        short = texts_of("1,a", 7)
        for size in SIZES:
            for mark in ("1", ",", "-"):
                told = {told_by_the_document(text, size, mark): text for text in short if text}
                for text in short:
                    if text in told:
                        self.assertEqual(ungrouped(text, size, mark), told[text])
                    else:
                        self.refused(text, size, mark)

    def test_no_signs(self):
        for size in SIZES:
            for mark in (",", "0", " "):
                self.refused("", size, mark)

    def test_marks_that_stand_elsewhere_lack_or_are_others(self):
        for text in ("1234", "12,34", "123,4", ",123", ",1234", "1,234,", "1.234", "1,2345", "1,234567",
                     "1234,567", "1 234"):
            self.refused(text, 3, ",")
        for text in ("12", ",1", "1,", "1,2,", ",1,2", "1,,2", "1.2", "1,2.3"):
            self.refused(text, 1, ",")

    def test_a_mark_at_the_front_whatever_it_is(self):
        for size in range(1, 10):
            for mark in (",", "1", "0"):
                self.refused(mark + "1" * size, size, mark)
                self.refused(mark + "1" * size + mark + "1" * size, size, mark)

    def test_40_signs_and_41(self):
        for size in SIZES:
            for mark in (",", "1", "x"):
                for sign in ("1", mark):
                    self.assertEqual(ungrouped(told_by_the_document(sign * 40, size, mark), size, mark), sign * 40)
                    self.refused(told_by_the_document(sign * 41, size, mark), size, mark)
                    self.refused(told_by_the_document(sign * 80, size, mark), size, mark)


if __name__ == "__main__":
    unittest.main()
