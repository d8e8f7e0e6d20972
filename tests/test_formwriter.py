import itertools
import unittest
from fractions import Fraction

from padwright.formreader import read_form
from padwright.formwriter import show_form
from padwright.numbers import NumberForm
from padwright.words import ChoiceForm, WordForm
from things import (ALL_SIDES, SIDES, SIGNS, STYLES, WAYS, fields_of, odd_numbers, pair_of, small_numbers,
                    small_words, values_by_look)

LOWER = "abcdefghijklmnopqrstuvwxyz"
EVERY = "".join(SIGNS[1:])
# Clauses of forms of numbers, in their order, with the fields that they tell.
CLAUSES = ((" base 3", {"base": 3}), (" sign behind", {"sign": "behind"}), (" groups 2 _", {"size": 2, "mark": "_"}),
           (" point :", {"point": ":"}), (" way cut", {"way": "cut"}))
LAST = ((" width 20", {"width": 20}), (" fill *", {"fill": "*"}), (" side middle", {"side": "middle"}))


def chosen(clauses):
    """Each choice of these clauses: their words, and the fields that they tell."""
    for told in itertools.product((False, True), repeat=len(clauses)):
        picked = [clause for clause, wanted in zip(clauses, told) if wanted]
        yield ("".join(words for words, fields in picked),
               {name: value for words, fields in picked for name, value in fields.items()})


def last_clauses():
    """Each choice of the last clauses; strict only behind a width that leaves room."""
    for words, fields in chosen(LAST):
        yield words, fields
        if "width" in fields:
            yield words + " strict", dict(fields, strict=True)


class Told(unittest.TestCase):
    def check(self, form, text):
        """The text that is told, and that it is read to a form all of whose fields are alike, but for the mark."""
        fields = fields_of(form)
        shown = show_form(form)
        self.assertIs(shown.__class__, str)
        self.assertEqual(shown, text)
        self.check_read(form)
        self.assertEqual(fields_of(form), fields)

    def check_read(self, form):
        fields = fields_of(form)
        if fields.get("size") == 0:
            fields["mark"] = ","
        read = read_form(show_form(form))
        self.assertIs(read.__class__, form.__class__)
        self.assertEqual(fields_of(read), fields)
        return read

    def check_puts(self, form):
        """A small form and what is read of its text: they put all values alike, and read all texts alike."""
        read = self.check_read(form)
        for values in values_by_look(form):
            for value, text in values:
                self.assertEqual((read.core(value), read.put(value)), (form.core(value), text))
                self.assertEqual(read.values_for(text), form.values_for(text))


class Shows(Told):
    """5.6: show_form."""

    def test_the_documents_examples(self):
        for text in ("number 6 2 groups 3 , width 12 fill *", "number 2 0 base 16 width 2 fill 0 strict",
                     "word =ab 1 3 blank width 4", "number 3 2 width 4 strict", "word =.AB 1 3"):
            self.assertEqual(show_form(read_form(text)), text)
        form = NumberForm(6, 2, size=3, width=12, fill="*")
        self.check(form, "number 6 2 groups 3 , width 12 fill *")
        self.assertEqual(read_form(show_form(form)).put((-5, 2)), "*******-2.50")
        form = NumberForm(2, 0, 16, width=2, fill="0", strict=True)
        self.check(form, "number 2 0 base 16 width 2 fill 0 strict")
        self.assertEqual(read_form(show_form(form)).put((10, 1)), "0a")
        form = WordForm(" ab", 1, 3, 4)
        self.check(form, "word =ab 1 3 blank width 4")
        self.assertEqual(read_form(show_form(form)).put("a b"), "a b ")

    def test_no_clause(self):
        self.check(NumberForm(6, 2), "number 6 2")
        self.check(WordForm("ab", 1, 3), "word =ab 1 3")
        self.check(ChoiceForm(["yes", "no"]), "choice 2 yes no")

    def test_all_clauses(self):
        self.check(NumberForm(12, 6, 16, "brackets", 9, ";", ",", "even", 40, "*", "inside", True),
                   "number 12 6 base 16 sign brackets groups 9 ; point , way even width 40 fill * side inside strict")
        self.check(WordForm(" az", 2, 24, 7, ".", "middle", True),
                   "word =az 2 24 blank width 7 fill . side middle strict")
        self.check(ChoiceForm(["yes", "no"], 5, "-", "right", True),
                   "choice 2 yes no width 5 fill - side right strict")

    def test_each_choice_of_clauses_of_numbers(self):
        for words, fields in chosen(CLAUSES):
            for last, last_fields in last_clauses():
                self.check(NumberForm(5, 1, **fields, **last_fields), "number 5 1" + words + last)

    def test_each_choice_of_clauses_of_words_and_names(self):
        for last, fields in last_clauses():
            self.check(WordForm("bd", 1, 2, **fields), "word =bd 1 2" + last)
            self.check(WordForm(" bd", 1, 2, **fields), "word =bd 1 2 blank" + last)
            self.check(ChoiceForm(["b", "d"], **fields), "choice 2 b d" + last)

    def test_all_numbers(self):
        for figures, places in itertools.product(range(1, 13), range(7)):
            self.check(NumberForm(figures, places), f"number {figures} {places}")
        for base in range(2, 17):
            self.check(NumberForm(1, 0, base), "number 1 0" if base == 10 else f"number 1 0 base {base}")
        for size in range(10):
            self.check(NumberForm(1, 0, size=size), f"number 1 0 groups {size} ," if size else "number 1 0")
        for width in range(41):
            clause = f" width {width}" if width else ""
            self.check(NumberForm(1, 0, width=width), "number 1 0" + clause)
            self.check(WordForm(LOWER, 0, 1, width), "word lower 0 1" + clause)
            self.check(ChoiceForm(["a"], width), "choice 1 a" + clause)
        for least in range(25):
            for most in range(least, 25):
                self.check(WordForm("ab", least, most), f"word =ab {least} {most}")

    def test_all_words_of_choices(self):
        for style in STYLES:
            self.check(NumberForm(1, 0, sign=style), "number 1 0" + (f" sign {style}" if style != "minus" else ""))
        for way in WAYS:
            self.check(NumberForm(1, 0, way=way), "number 1 0" + (f" way {way}" if way != "near" else ""))
        for side in ALL_SIDES:
            self.check(NumberForm(1, 0, side=side), "number 1 0" + (f" side {side}" if side != "right" else ""))
        for side in SIDES:
            clause = f" side {side}" if side != "left" else ""
            self.check(WordForm("ab", 1, 1, side=side), "word =ab 1 1" + clause)
            self.check(ChoiceForm(["a"], side=side), "choice 1 a" + clause)

    def test_all_signs(self):
        for sign in SIGNS:
            word = "blank" if sign == " " else sign
            fill = f" fill {word}" if sign != " " else ""
            self.check(NumberForm(1, 0, fill=sign), "number 1 0" + fill)
            self.check(WordForm("ab", 1, 1, fill=sign), "word =ab 1 1" + fill)
            self.check(ChoiceForm(["a"], fill=sign), "choice 1 a" + fill)
            self.check(NumberForm(1, 0, size=1, mark=sign), f"number 1 0 groups 1 {word}")
            for places in (0, 1):
                self.check(NumberForm(1, places, point=sign),
                           f"number 1 {places}" + (f" point {word}" if sign != "." else ""))

    def test_the_mark_where_there_are_no_groups(self):
        for sign in SIGNS:
            self.check(NumberForm(3, 1, mark=sign), "number 3 1")
            self.check(NumberForm(3, 1, mark=sign, point=",", width=7), "number 3 1 point , width 7")

    def test_the_fill_where_there_is_no_width(self):
        self.check(NumberForm(3, 1, fill="*", side="left"), "number 3 1 fill * side left")

    def test_signs_of_words(self):
        for word, signs in (("lower", LOWER), ("upper", LOWER.upper()), ("figures", "0123456789"), ("all", EVERY),
                            ("==", "="), ("=!~", "!~"), ("=.AB", ".AB"), ("=!", "!"), ("=az", "az"),
                            ("=" + LOWER[1:], LOWER[1:]), ("=" + LOWER[:-1], LOWER[:-1]), ("=" + EVERY[1:], EVERY[1:]),
                            ("=" + EVERY[:-1], EVERY[:-1]), ("=0123456789a", "0123456789a"),
                            ("=" + LOWER.upper() + LOWER, LOWER.upper() + LOWER)):
            self.check(WordForm(signs, 1, 3), f"word {word} 1 3")
            self.check(WordForm(" " + signs, 1, 3), f"word {word} 1 3 blank")
            self.check(WordForm(" " + signs, 0, 3, 4, "*", "right", True),
                       f"word {word} 0 3 blank width 4 fill * side right strict")
        for sign in SIGNS[1:]:
            self.check(WordForm(sign, 0, 0), f"word ={sign} 0 0")

    def test_names(self):
        names = ["width", "fill", "side", "strict", "blank", "number", "3", "00", "=", "choice", "x" * 12, "!"]
        for count in range(1, 13):
            self.check(ChoiceForm(names[:count]), f"choice {count} " + " ".join(names[:count]))
        self.check(ChoiceForm(["width", "5", "strict"], 6, strict=True), "choice 3 width 5 strict width 6 strict")
        for sign in SIGNS[1:]:
            self.check(ChoiceForm([sign]), f"choice 1 {sign}")

    def test_names_stay_as_they_are(self):
        form = ChoiceForm(["yes", "no"], 5)
        for turn in range(2):
            self.assertEqual(show_form(form), "choice 2 yes no width 5")
            self.assertEqual(form.names, ["yes", "no"])

    def test_strict_without_a_width(self):
        self.check(WordForm("ab", 0, 3, strict=True), "word =ab 0 3 strict")

    def test_clauses_that_tell_nothing_are_left_out(self):
        for text, shown in (
                ("number 3 1 base 10 sign minus point . way near fill blank side right", "number 3 1"),
                ("word =" + LOWER + " 1 2 fill blank side left", "word lower 1 2"),
                ("word =" + EVERY + " 1 2 blank", "word all 1 2 blank"), ("word =0123456789 1 2", "word figures 1 2"),
                ("choice 2 a b fill blank side left", "choice 2 a b"),
                ("number 3 1 groups 3 , side left", "number 3 1 groups 3 , side left"),
                ("word lower 1 2 side right", "word lower 1 2 side right")):
            self.assertEqual(show_form(read_form(text)), shown)


class Puts(Told):
    """5.6: what is shown is read to a form that puts all values alike."""

    def test_small_numbers(self):
        for form in small_numbers((0, 5)):
            # A strict form that puts nothing tells nothing.
            if form.puts_some():
                self.check_puts(form)

    def test_odd_marks_points_and_fills(self):
        for form in odd_numbers():
            self.check_puts(form)

    def test_small_words_and_names(self):
        for form in small_words((0, 1, 3)):
            if form.puts_some():
                self.check_puts(form)

    def test_each_way(self):
        for way in WAYS:
            form = NumberForm(2, 1, way=way)
            read = self.check_read(form)
            for top in range(-100, 101):
                value = pair_of(Fraction(top, 20))
                self.assertEqual(read.put(value), form.put(value))


if __name__ == "__main__":
    unittest.main()
