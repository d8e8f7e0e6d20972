import unittest

from padwright.signs import SIGN_SETS, is_text
from things import SIGNS, no_texts


class Signs(unittest.TestCase):
    """0.2: the signs, and texts of them."""

    def test_the_sets(self):
        self.assertEqual(list(SIGN_SETS["all"]), SIGNS[1:])
        for name, first, last in (("lower", "a", "z"), ("upper", "A", "Z"), ("figures", "0", "9")):
            self.assertEqual(list(SIGN_SETS[name]), [sign for sign in SIGNS if first <= sign <= last])

    def test_texts(self):
        for text in ["", " ", "a b", "".join(SIGNS)] + SIGNS:
            self.assertIs(is_text(text), True)

    def test_texts_with_other_signs(self):
        for code in list(range(32)) + [37] + list(range(127, 300)) + [0x663, 0xff11, 0x1d7d8, 0x2028]:
            for text in (chr(code), "a" + chr(code), chr(code) + "a", "a" + chr(code) + "b"):
                self.assertIs(is_text(text), False)

    def test_what_is_no_text(self):
        for thing in no_texts():
            self.assertIs(is_text(thing), False)


if __name__ == "__main__":
    unittest.main()
