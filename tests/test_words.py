import unittest

from padwright.errors import NoText, NoValue, TooWide, TwoValues
from padwright.words import ChoiceForm, WordForm
from things import SIDES, SIGNS, Prickly, no_texts, put_told, reading_of, reading_told, refusal_of, texts_of


def values_told(form, values):
    """For each text that the form puts, all of its values that are put so, in the order of the values."""
    told = {}
    for value in values:
        told.setdefault(put_told(form, value), []).append(value)
    told.pop(None, None)
    return told


class Told(unittest.TestCase):
    """How the tests of both kinds ask."""

    def refused(self, form, value, core, put):
        self.assertIs(refusal_of(form.core, value), core)
        self.assertIs(refusal_of(form.put, value), put)

    def check_reading(self, form, values, texts):
        """values_for and value_of, of each of these texts."""
        told = values_told(form, values)
        for text in set(texts) | set(told):
            asked = told.get(text, [])
            self.assertEqual(form.values_for(text), asked, (text, vars(form)))
            self.assertEqual(reading_of(form, text), reading_told(asked), (text, vars(form)))

    def check_lists(self, form, text, values):
        """Lists that are told, and those that refusals bear, are the asker's own."""
        self.assertGreater(len(values), 1)
        for turn in range(2):
            got = form.values_for(text)
            self.assertEqual(got, values)
            self.assertIs(got.__class__, list)
            got.clear()
            told = reading_of(form, text)
            self.assertEqual(told, (TwoValues, values))
            told[1].clear()


class Words(Told):
    """4.3, 4.4: core and put of words."""

    def test_ordinary(self):
        form = WordForm("abc", 1, 3, width=5, fill="*")
        self.assertEqual((form.core("ab"), form.put("ab")), ("ab", "ab***"))
        self.assertEqual([WordForm("abc", 1, 3, width=5, fill="*", side=side).put("ab") for side in SIDES],
                         ["ab***", "***ab", "*ab**"])
        self.assertEqual(WordForm("abc", 1, 3).put("ab"), "ab")

    def test_the_defaults(self):
        form = WordForm("abc", 0, 3)
        self.assertEqual((form.put("abc"), form.put("")), ("abc", ""))
        self.assertEqual(WordForm("abc", 0, 3, width=3).put("a"), "a  ")
        self.assertEqual(WordForm("abc", 0, 3, 2).put("abc"), "abc")

    def test_lengths(self):
        for least in range(5):
            for most in range(least, 5):
                form = WordForm("ab", least, most)
                for length in range(7):
                    refusal = None if least <= length <= most else NoValue
                    self.refused(form, "b" * length, refusal, refusal)

    def test_the_longest_words(self):
        form = WordForm("x", 24, 24, width=40, fill="-", side="middle")
        self.assertEqual(form.put("x" * 24), "-" * 8 + "x" * 24 + "-" * 8)
        for length in (0, 1, 23, 25, 400):
            self.refused(form, "x" * length, NoValue, NoValue)

    def test_other_signs(self):
        form = WordForm("bd", 1, 3)
        for word in ("a", "c", "e", "B", "ba", "ab", "bad", "b ", " ", "bd\n", "\n", "\u00e4", "0", "b*"):
            self.refused(form, word, NoValue, NoValue)

    def test_each_sign(self):
        for sign in SIGNS:
            form = WordForm(sign, 1, 2)
            for other in SIGNS:
                refusal = None if other == sign else NoValue
                self.refused(form, other, refusal, refusal)
                self.refused(form, sign + other, refusal, refusal)

    def test_texts_that_are_pieces_of_the_signs(self):
        form = WordForm("abcd", 0, 2)
        self.assertEqual(form.put("bc"), "bc")
        self.assertEqual(form.put("cb"), "cb")
        self.assertEqual(form.put("dd"), "dd")
        self.refused(form, "bcd", NoValue, NoValue)

    def test_things_of_other_kinds(self):
        for form in (WordForm("".join(SIGNS), 0, 24), WordForm("1", 1, 1, width=0, strict=True)):
            for thing in no_texts() + [["a"], ("a",), ["1"], Prickly(), b"1"]:
                self.refused(form, thing, NoValue, NoValue)

    def test_strict(self):
        for side in SIDES:
            form = WordForm("ab", 0, 4, width=2, fill="*", side=side, strict=True)
            self.assertEqual((form.put("ab"), form.put("")), ("ab", "**"))
            self.assertEqual((form.core("aba"), form.core("abab")), ("aba", "abab"))
            self.refused(form, "aba", None, TooWide)
            self.refused(form, "abac", NoValue, NoValue)
            self.refused(form, "ababa", NoValue, NoValue)
        self.assertEqual(WordForm("ab", 0, 4, strict=True).put(""), "")
        self.refused(WordForm("ab", 0, 4, strict=True), "a", None, TooWide)

    def test_fills_and_blanks_as_signs(self):
        form = WordForm(" ab", 1, 3, width=4)
        self.assertEqual(form.put("a b"), "a b ")
        self.assertEqual(form.put("  "), "    ")


class ReadingWords(Told):
    """4.5: values_for and value_of of words."""

    def test_ordinary(self):
        form = WordForm("abc", 1, 3, width=5, fill="*")
        self.assertEqual(form.values_for("ab***"), ["ab"])
        self.assertEqual(form.value_of("ab***"), "ab")
        for text in ("", "ab", "ab**", "*****", "abca*", "abcab", "ab****", "*ab**", "ad***", "ab   ", "a*b**"):
            self.assertEqual(form.values_for(text), [])
            self.assertIs(refusal_of(form.value_of, text), NoText)

    def test_several_stand_in_the_order_of_texts(self):
        form = WordForm("ab", 0, 3, width=3, fill="a", side="right")
        # By lengths they would stand b, ab, aab.
        self.assertEqual(form.values_for("aab"), ["aab", "ab", "b"])
        self.assertEqual(form.values_for("aaa"), ["", "a", "aa", "aaa"])
        form = WordForm(" ab", 0, 3, width=3)
        self.assertEqual(form.values_for("a  "), ["a", "a ", "a  "])
        form = WordForm("*ab", 0, 3, width=3, fill="*", side="middle")
        self.assertEqual(form.values_for("*a*"), ["*a", "*a*", "a"])

    def test_all_short_words_and_texts(self):
        short = texts_of("abc", 4)
        for signs in ("a", "b", "ab", "bc"):
            for least, most in ((0, 0), (0, 3), (1, 2), (2, 3), (3, 3)):
                words = sorted(word for word in texts_of(signs, most) if len(word) >= least)
                for fill in "abc":
                    for side in SIDES:
                        for width in range(4):
                            for strict in (False, True):
                                form = WordForm(signs, least, most, width, fill, side, strict)
                                self.check_reading(form, words, short)

    def test_a_strict_form_that_puts_nothing(self):
        form = WordForm("ab", 2, 3, width=1, strict=True)
        for text in ("", "a", " ", "ab", "aba"):
            self.assertEqual(form.values_for(text), [])

    def test_lists_that_were_told_are_the_askers_own(self):
        self.check_lists(WordForm(" a", 0, 3, width=3), "a  ", ["a", "a ", "a  "])


class Names(Told):
    """4.3, 4.4: core and put of names."""

    def test_ordinary(self):
        form = ChoiceForm(["yes", "no", "maybe"], width=4, fill="-")
        self.assertEqual([form.put(name) for name in ("yes", "no", "maybe")], ["yes-", "no--", "maybe"])
        self.assertEqual([form.core(name) for name in ("yes", "no", "maybe")], ["yes", "no", "maybe"])
        self.assertEqual([ChoiceForm(["ab"], width=5, fill="*", side=side).put("ab") for side in SIDES],
                         ["ab***", "***ab", "*ab**"])

    def test_the_defaults(self):
        self.assertEqual(ChoiceForm(["a"]).put("a"), "a")
        self.assertEqual(ChoiceForm(["a"], width=3).put("a"), "a  ")
        self.assertEqual(ChoiceForm(["abc"], 2).put("abc"), "abc")

    def test_names_that_are_none_of_the_forms(self):
        form = ChoiceForm(["yes", "no"])
        for name in ("", "y", "ye", "yess", "Yes", "YES", " yes", "yes ", "maybe", "no\n", "yesno", "yes,no",
                     "x" * 400):
            self.refused(form, name, NoValue, NoValue)

    def test_things_of_other_kinds(self):
        for thing in no_texts() + [["yes"], ("yes",), Prickly(), b"yes", 0]:
            for form in (ChoiceForm(["yes", "no", "0", "1"]), ChoiceForm(["1"], strict=True)):
                self.refused(form, thing, NoValue, NoValue)

    def test_twelve_names_of_twelve_signs(self):
        names = [sign * 12 for sign in "!\"#$&'()~|{z"]
        form = ChoiceForm(names, width=13, fill="*", side="right")
        self.assertEqual([form.put(name) for name in names], ["*" + name for name in names])
        self.assertEqual([form.value_of("*" + name) for name in names], names)

    def test_strict(self):
        form = ChoiceForm(["yes", "no"], width=2, strict=True)
        self.assertEqual((form.put("no"), form.core("yes")), ("no", "yes"))
        self.refused(form, "yes", None, TooWide)
        self.refused(form, "maybe", NoValue, NoValue)

    def test_names_are_a_list_of_the_forms_own(self):
        names = ["yes", "no"]
        form = ChoiceForm(names)
        names.append("maybe")
        names[0] = "x"
        self.assertEqual(form.names, ["yes", "no"])
        self.assertEqual(form.put("yes"), "yes")
        self.refused(form, "maybe", NoValue, NoValue)
        self.assertEqual(form.values_for("x"), [])
        self.assertIs(form.names.__class__, list)
        handed = ["a", "b"]
        ChoiceForm(handed).values_for("a")
        self.assertEqual(handed, ["a", "b"])

    def test_widened_forms_share_no_list(self):
        form = ChoiceForm(["yes", "no"])
        wide = form.widened(4)
        self.assertEqual(wide.names, ["yes", "no"])
        self.assertIsNot(wide.names, form.names)


class ReadingNames(Told):
    """4.5: values_for and value_of of names."""

    def test_ordinary(self):
        form = ChoiceForm(["yes", "no", "maybe"], width=4, fill="-")
        self.assertEqual([form.value_of(text) for text in ("yes-", "no--", "maybe")], ["yes", "no", "maybe"])
        for text in ("", "yes", "no-", "no---", "-yes", "maybe-", "----", "y---"):
            self.assertEqual(form.values_for(text), [])
            self.assertIs(refusal_of(form.value_of, text), NoText)

    def test_several_stand_in_the_order_of_the_forms_names(self):
        for names in (["a*", "a", "a**"], ["a", "a*", "a**"], ["a**", "b", "a*", "a"]):
            form = ChoiceForm(names, width=3, fill="*")
            self.assertEqual(form.values_for("a**"), [name for name in names if name != "b"])

    def test_short_names_and_texts(self):
        short = texts_of("ab", 4)
        for names in (["b", "a", "ab", "ba"], ["aab", "ab", "b"], ["aaa", "a", "aa"], ["ba", "b", "baa", "ab", "aba"]):
            for fill in "abc":
                for side in SIDES:
                    for width in range(5):
                        for strict in (False, True):
                            self.check_reading(ChoiceForm(names, width, fill, side, strict), names, short)

    def test_lists_that_were_told_are_the_askers_own(self):
        self.check_lists(ChoiceForm(["a*", "a"], width=3, fill="*"), "a**", ["a*", "a"])
        form = ChoiceForm(["a"])
        form.values_for("a").append("b")
        self.assertEqual(form.names, ["a"])


if __name__ == "__main__":
    unittest.main()
