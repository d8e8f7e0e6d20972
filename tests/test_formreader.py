import functools
import itertools
import re
import unittest

from padwright.errors import NoForm
from padwright.formreader import read_form
from padwright.numbers import NumberForm
from padwright.words import ChoiceForm, WordForm
from things import SIDES, SIGNS, STYLES, WAYS, fields_of, no_texts, refusal_of

LOWER = "abcdefghijklmnopqrstuvwxyz"

# The language once more, as rows of regular expressions, for texts that tell a form.
SIGN = "(?:blank|[!-~])"
LAST = f"( width ([1-9]|[123][0-9]|40))?( fill {SIGN})?( side (?:left|right|middle{{0}}))?(?P<strict> strict)?"
NUMBER = re.compile(
    "number ([1-9]|1[0-2]) (?P<places>[0-6])( base ([2-9]|1[0-6]))?( sign (?P<style>minus|plus|blank|brackets|behind))?"
    f"( groups [1-9] {SIGN})?( point {SIGN})?( way (down|up|cut|near|even))?" + LAST.replace("{0}", "|inside"))
WORD = re.compile("word (?P<signs>lower|upper|figures|all|=[!-~]+) (?P<least>[0-9]|1[0-9]|2[0-4])"
                  " (?P<most>[0-9]|1[0-9]|2[0-4])( blank)?" + LAST.replace("{0}", ""))
CHOICES = [re.compile(f"choice {count}(?P<names>( [!-~]{{1,12}}){{{count}}})" + LAST.replace("{0}", ""))
           for count in range(1, 13)]


def width_in(text):
    """The width that is told behind the names, or whatever else stands ahead of the last clauses."""
    found = re.search(" width ([0-9]+)( fill [^ ]+)?( side [a-z]+)? strict$", text)
    return int(found.group(1)) if found else 0


def is_number_form(text):
    found = NUMBER.fullmatch(text)
    if not found:
        return False
    places = int(found.group("places"))
    shortest = 1 + (places + 1 if places else 0) + (1 if found.group("style") in ("plus", "blank") else 0)
    return not found.group("strict") or shortest <= width_in(text)


def is_word_form(text):
    found = WORD.fullmatch(text)
    if not found or int(found.group("most")) < int(found.group("least")):
        return False
    signs = found.group("signs")
    if signs.startswith("=") and list(signs[1:]) != sorted(set(signs[1:])):
        return False
    return not found.group("strict") or int(found.group("least")) <= width_in(text)


def is_choice_form(text):
    for choice in CHOICES:
        found = choice.fullmatch(text)
        if found:
            names = found.group("names").split()
            shortest = min(len(name) for name in names)
            width = width_in(text[found.end("names"):])
            return len(set(names)) == len(names) and (not found.group("strict") or shortest <= width)
    return False


def tells_a_form(text):
    return is_number_form(text) or is_word_form(text) or is_choice_form(text)


# Whatever words stand ahead, where they can be gone on from at all, one of these goes on to a form.
COMPLETIONS = [words.split() for words in (
    "", "2", "plus", ".", "near", "left", "24", "40", "3 2", "3 ,", "lower 1 24", "1 24", "1 q1")]
COMPLETIONS += [[f"q{turn}" for turn in range(count)] for count in range(1, 13)]


@functools.lru_cache(maxsize=None)
def can_begin(words):
    return any(tells_a_form(" ".join(words + tuple(completion))) for completion in COMPLETIONS)


def at_told(text):
    """The at by the words of 5.5: the first word with which no form begins; None where a form is told."""
    if re.search("[^ -~]|%", text):
        return 0
    words = tuple(text.split(" "))
    for at in range(len(words)):
        if not can_begin(words[:at + 1]):
            return at
    return None if tells_a_form(text) else len(words)


def at_of(text):
    """The at of the refusal; None where a form is told."""
    try:
        read_form(text)
    except NoForm as refusal:
        if refusal.__class__ is not NoForm:
            raise
        return refusal.at
    return None


class Reads(unittest.TestCase):
    """5.1 to 5.4: what tells a form."""

    def check(self, text, form):
        got = read_form(text)
        self.assertIs(got.__class__, form.__class__, text)
        self.assertEqual(fields_of(got), fields_of(form), text)
        self.assertEqual([field.__class__ for field in fields_of(got).values()],
                         [field.__class__ for field in fields_of(form).values()], text)

    def test_the_documents_examples(self):
        self.assertEqual(read_form("number 6 2 groups 3 , width 12 fill *").put((-5, 2)), "*******-2.50")
        self.assertEqual(read_form("number 2 0 base 16 width 2 fill 0 strict").put((10, 1)), "0a")
        self.assertEqual(read_form("word =ab 1 3 blank width 4").put("a b"), "a b ")
        self.assertEqual(at_of("number 3 2 width 3 strict"), 5)
        self.assertEqual(at_of("number 3 2 width 4 strict"), None)
        self.assertEqual(read_form("word =.AB 1 3").signs, ".AB")

    def test_defaults(self):
        self.check("number 6 2", NumberForm(6, 2, 10, "minus", 0, ",", ".", "near", 0, " ", "right", False))
        self.check("word lower 1 3", WordForm(LOWER, 1, 3, 0, " ", "left", False))
        self.check("choice 1 a", ChoiceForm(["a"], 0, " ", "left", False))

    def test_all_clauses_together(self):
        self.check("number 12 6 base 16 sign brackets groups 9 ; point , way even width 40 fill * side inside strict",
                   NumberForm(12, 6, 16, "brackets", 9, ";", ",", "even", 40, "*", "inside", True))
        self.check("word =az 2 24 blank width 7 fill . side middle strict",
                   WordForm(" az", 2, 24, 7, ".", "middle", True))
        self.check("choice 2 yes no width 5 fill - side right strict",
                   ChoiceForm(["yes", "no"], 5, "-", "right", True))

    def last_clauses(self):
        """Each choice of the last clauses, with what they tell; strict only with a width that leaves room."""
        for told in itertools.product((False, True), repeat=4):
            width, fill, side, strict = told
            if width or not strict:
                words = [" width 20" * width, " fill *" * fill, " side middle" * side, " strict" * strict]
                fields = {"width": 20} if width else {}
                fields.update({"fill": "*"} if fill else {})
                fields.update({"side": "middle"} if side else {})
                fields.update({"strict": True} if strict else {})
                yield "".join(words), fields

    def test_each_choice_of_clauses_of_numbers(self):
        clauses = [(" base 3", {"base": 3}), (" sign behind", {"sign": "behind"}),
                   (" groups 2 _", {"size": 2, "mark": "_"}), (" point :", {"point": ":"}),
                   (" way cut", {"way": "cut"})]
        for told in itertools.product((False, True), repeat=5):
            picked = [clause for clause, wanted in zip(clauses, told) if wanted]
            for last, last_fields in self.last_clauses():
                fields = {name: value for words, part in picked for name, value in part.items()}
                self.check("number 5 1" + "".join(words for words, part in picked) + last,
                           NumberForm(5, 1, **fields, **last_fields))

    def test_each_choice_of_clauses_of_words_and_names(self):
        for last, fields in self.last_clauses():
            self.check("word =bd 1 2" + last, WordForm("bd", 1, 2, **fields))
            self.check("word =bd 1 2 blank" + last, WordForm(" bd", 1, 2, **fields))
            self.check("choice 2 b d" + last, ChoiceForm(["b", "d"], **fields))

    def test_all_numbers(self):
        for figures in range(1, 13):
            for places in range(7):
                self.check(f"number {figures} {places}", NumberForm(figures, places))
        for base in range(2, 17):
            self.check(f"number 1 0 base {base}", NumberForm(1, 0, base))
        for size in range(1, 10):
            self.check(f"number 1 0 groups {size} ,", NumberForm(1, 0, size=size))
        for width in range(1, 41):
            self.check(f"number 1 0 width {width}", NumberForm(1, 0, width=width))
            self.check(f"word lower 0 1 width {width}", WordForm(LOWER, 0, 1, width))
            self.check(f"choice 1 a width {width}", ChoiceForm(["a"], width))
        for least in range(25):
            for most in range(least, 25):
                self.check(f"word lower {least} {most}", WordForm(LOWER, least, most))

    def test_all_words_of_choices(self):
        for style in STYLES:
            self.check(f"number 1 0 sign {style}", NumberForm(1, 0, sign=style))
        for way in WAYS:
            self.check(f"number 1 0 way {way}", NumberForm(1, 0, way=way))
        for side in SIDES + ("inside",):
            self.check(f"number 1 0 side {side}", NumberForm(1, 0, side=side))
        for side in SIDES:
            self.check(f"word lower 1 1 side {side}", WordForm(LOWER, 1, 1, side=side))
            self.check(f"choice 1 a side {side}", ChoiceForm(["a"], side=side))

    def test_all_signs(self):
        for sign in SIGNS:
            word = "blank" if sign == " " else sign
            self.check(f"number 1 0 fill {word}", NumberForm(1, 0, fill=sign))
            self.check(f"number 1 0 point {word}", NumberForm(1, 0, point=sign))
            self.check(f"number 1 0 groups 1 {word}", NumberForm(1, 0, size=1, mark=sign))
            self.check(f"word lower 1 1 fill {word}", WordForm(LOWER, 1, 1, fill=sign))
            self.check(f"choice 1 a fill {word}", ChoiceForm(["a"], fill=sign))

    def test_signs_of_words(self):
        for word, signs in (("lower", LOWER), ("upper", LOWER.upper()), ("figures", "0123456789"),
                            ("all", "".join(SIGNS[1:])), ("==", "="), ("=!~", "!~"), ("=.AB", ".AB"),
                            ("=" + "".join(SIGNS[1:]), "".join(SIGNS[1:])), ("=!", "!"), ("=az", "az")):
            self.check(f"word {word} 1 3", WordForm(signs, 1, 3))
            self.check(f"word {word} 1 3 blank", WordForm(" " + signs, 1, 3))
        for sign in SIGNS[1:]:
            self.check(f"word ={sign} 0 0", WordForm(sign, 0, 0))

    def test_names_whatever_words_they_are(self):
        names = ["width", "fill", "side", "strict", "blank", "number", "3", "00", "=", "choice", "x" * 12, "!"]
        self.check("choice 12 " + " ".join(names), ChoiceForm(names))
        self.check("choice 12 " + " ".join(names) + " width 2 fill blank", ChoiceForm(names, 2))
        self.check("choice 2 width strict", ChoiceForm(["width", "strict"]))
        self.check("choice 3 width 5 strict width 6 strict", ChoiceForm(["width", "5", "strict"], 6, strict=True))
        for count in range(1, 13):
            self.check(f"choice {count} " + " ".join(names[:count]), ChoiceForm(names[:count]))
        for sign in SIGNS[1:]:
            self.check(f"choice 1 {sign}", ChoiceForm([sign]))

    def test_strict_where_the_form_puts_some_value(self):
        self.check("word lower 0 3 strict", WordForm(LOWER, 0, 3, strict=True))
        self.check("word lower 2 3 width 2 strict", WordForm(LOWER, 2, 3, 2, strict=True))
        self.check("word =x 2 3 width 2 strict", WordForm("x", 2, 3, 2, strict=True))
        self.check("choice 2 abc d width 1 strict", ChoiceForm(["abc", "d"], 1, strict=True))
        self.check("number 3 0 width 1 strict", NumberForm(3, 0, width=1, strict=True))
        for style, width in (("minus", 3), ("plus", 4), ("blank", 4), ("brackets", 3), ("behind", 3)):
            self.check(f"number 3 1 sign {style} groups 1 , width {width} side inside strict",
                       NumberForm(3, 1, sign=style, size=1, width=width, side="inside", strict=True))
            self.assertEqual(at_of(f"number 3 1 sign {style} groups 1 , width {width - 1} side inside strict"), 12)

    def test_each_reading_tells_a_new_form(self):
        one, other = read_form("choice 1 a"), read_form("choice 1 a")
        self.assertIsNot(one, other)
        one.names.append("b")
        self.assertEqual(other.names, ["a"])
        self.assertEqual(read_form("choice 1 a").names, ["a"])


class Refuses(unittest.TestCase):
    """5.5: NoForm, and the number of the word that can't stand."""

    def check(self, cases):
        for text, at in cases:
            self.assertEqual(at_of(text), at, repr(text))

    def test_other_first_words(self):
        self.check([("", 0), (" ", 0), ("  ", 0), ("x", 0), ("Number 1 0", 0), ("numbers 1 0", 0), ("number1 0", 0),
                    (" number 1 0", 0), ("3", 0), ("strict", 0), ("width 3", 0), ("words lower 1 1", 0),
                    ("name 1 a", 0), ("blank", 0)])

    def test_words_that_lack_at_the_end(self):
        self.check([("number", 1), ("number 3", 2), ("word", 1), ("word lower", 2), ("word lower 1", 3), ("choice", 1),
                    ("choice 2", 2), ("choice 2 a", 3), ("number 3 2 base", 4), ("number 3 2 sign", 4),
                    ("number 3 2 groups", 4), ("number 3 2 groups 3", 5), ("number 3 2 point", 4),
                    ("number 3 2 way", 4),
                    ("number 3 2 width", 4), ("number 3 2 fill", 4), ("number 3 2 side", 4),
                    ("word lower 1 2 blank width", 6), ("word lower 1 2 fill", 5), ("choice 1 a side", 4),
                    ("choice 12 a b c d e f g h i j k", 13)])

    def test_numbers_amiss(self):
        self.check([("number 0 2", 1), ("number 13 2", 1), ("number 03 2", 1), ("number x 2", 1), ("number -3 2", 1),
                    ("number +3 2", 1), ("number 3.0 2", 1), ("number 3 7", 2), ("number 3 00", 2), ("number 3 02", 2),
                    ("number 3 -1", 2), ("number a 2", 1), ("number 3 2 base 1", 4), ("number 3 2 base 17", 4),
                    ("number 3 2 base 010", 4), ("number 3 2 base f", 4), ("number 3 2 groups 0 ,", 4),
                    ("number 3 2 groups 10 ,", 4), ("number 3 2 groups , 3", 4), ("number 3 2 width 0", 4),
                    ("number 3 2 width 41", 4), ("number 3 2 width 04", 4), ("number 3 2 width " + "9" * 300, 4),
                    ("number 3 2 width 1_0", 4), ("word lower 25 25", 2), ("word lower 0 25", 3),
                    ("word lower 00 3", 2),
                    ("word lower 1 03", 3), ("word lower -1 3", 2), ("choice 0", 1), ("choice 0 a", 1),
                    ("choice 13 a", 1), ("choice 01 a", 1), ("choice a a", 1)])

    def test_most_less_than_least(self):
        for least in range(25):
            for most in range(25):
                self.assertEqual(at_of(f"word lower {least} {most}"), 3 if most < least else None)

    def test_signs_amiss(self):
        self.check([("number 3 2 fill ab", 4), ("number 3 2 fill blanks", 4), ("number 3 2 fill ", 4),
                    ("number 3 2 fill  ", 4), ("number 3 2 fill Blank", 4), ("number 3 2 point ..", 4),
                    ("number 3 2 groups 3 ,,", 5), ("number 3 2 groups 3 ", 5), ("word lower 1 2 fill **", 5),
                    ("choice 1 a fill **", 4)])

    def test_choices_amiss(self):
        self.check([("number 3 2 sign Minus", 4), ("number 3 2 sign -", 4), ("number 3 2 sign ", 4),
                    ("number 3 2 way nearest", 4), ("number 3 2 way ", 4), ("number 3 2 side inner", 4),
                    ("number 3 2 side ", 4), ("number 3 2 side centre", 4), ("word lower 1 2 side inside", 5),
                    ("choice 1 a side inside", 4), ("word lower 1 2 side ", 5)])

    def test_signs_of_words_amiss(self):
        for word in ("=", "", "=ba", "=aa", "=aba", "ab", "Lower", "=a=", "blank", "small", "=~!", "a=b", "=zb",
                     "all="):
            self.check([(f"word {word} 1 3", 1), (f"word {word}", 1)])

    def test_names_amiss(self):
        self.check([("choice 2 a a", 3), ("choice 3 a b a", 4), ("choice 3 a b b x", 4), ("choice 2 a ", 3),
                    ("choice 2  a", 2), ("choice 1 ", 2), ("choice 1 " + "x" * 13, 2), ("choice 2 a " + "x" * 13, 3),
                    ("choice 3 width width 3", 3), ("choice 1 a b", 3), ("choice 2 a b c", 4),
                    ("choice 2 a width 5", 4)])

    def test_clauses_told_twice(self):
        clauses = ("base 3", "sign plus", "groups 3 ,", "point ,", "way up", "width 9", "fill *", "side left")
        for clause in clauses:
            self.check([(f"number 3 2 {clause} {clause}", 3 + len(clause.split()))])
        for clause in clauses[5:]:
            self.check([(f"word lower 1 2 {clause} {clause}", 6), (f"choice 1 a {clause} {clause}", 5)])
        self.check([("number 3 2 width 9 strict strict", 6), ("word lower 1 2 blank blank", 5)])

    def test_clauses_out_of_order(self):
        clauses = ("base 3", "sign plus", "groups 3 ,", "point ,", "way up", "width 9", "fill *", "side left")
        for one, other in itertools.combinations(clauses, 2):
            self.check([(f"number 3 2 {one} {other}", None), (f"number 3 2 {other} {one}", 3 + len(other.split()))])
        for one, other in itertools.combinations(clauses[5:], 2):
            self.check([(f"word lower 1 2 {one} {other}", None), (f"word lower 1 2 {other} {one}", 6),
                        (f"choice 1 a {one} {other}", None), (f"choice 1 a {other} {one}", 5)])
        self.check([("word lower 1 2 width 3 blank", 6)])

    def test_clauses_of_another_kind(self):
        self.check([("word lower 1 2 base 3", 4), ("word lower 1 2 groups 3 ,", 4), ("choice 1 a blank", 3),
                    ("choice 1 a way up", 3), ("number 3 2 blank", 3), ("number 3 2 lower", 3)])

    def test_words_behind_strict(self):
        for word in ("", "x", "strict", "width", "fill", "blank", "side"):
            self.check([(f"number 3 0 width 1 strict {word}", 6), (f"word lower 0 2 strict {word}", 5),
                        (f"choice 1 a width 1 strict {word}", 6)])

    def test_strict_where_the_form_puts_nothing(self):
        self.check([("number 3 2 strict", 3), ("number 3 0 strict", 3), ("word lower 1 3 strict", 4),
                    ("word lower 1 3 blank strict", 5), ("word lower 3 3 width 2 fill * strict", 8),
                    ("choice 1 a strict", 3), ("choice 2 ab cd width 1 strict", 6), ("number 3 2 width 3 strict", 5),
                    ("number 3 0 sign plus width 1 strict", 7), ("number 3 0 sign blank width 1 fill 0 strict", 9),
                    ("number 3 6 width 7 side inside strict", 7), ("number 3 2 strict x", 3),
                    ("number 3 2 strict strict", 3)])

    def test_blanks_at_an_end_and_together(self):
        self.check([(" number 3 2", 0), ("number  3 2", 1), ("number 3  2", 2), ("number 3 2 ", 3), ("number 3 2  ", 3),
                    ("number 3 2  width 5", 3), ("number 3 2 width  5", 4), ("number 3 2 width 5 ", 5),
                    ("word  lower 1 2", 1), ("word lower 1 2 ", 4), ("choice  1 a", 1), ("choice 1 a ", 3),
                    ("number ", 1), ("number 3 ", 2)])

    def test_the_first_word_that_is_amiss_is_told(self):
        self.check([("number 0 9", 1), ("number 3 9 width 0", 2), ("word x 9 8", 1), ("word lower 9 8 x", 3),
                    ("choice 2 a a a", 3), ("number 3 2 width 3 strict x", 5), ("number 3 2 fill xx width 3", 4),
                    ("number 3 2 groups 0", 4), ("number 0", 1), ("choice 13", 1)])

    def test_other_signs_wherever_they_stand(self):
        for sign in ["\n", "\t", "%", "\r", "\x00", "\x7f", "\u00e4", "\u00a0", "\u0663", "\uff11", "\u2028",
                     "\x0b", "\x1c"]:
            for text in ("number 3 2 fill *", "word lower 1 2", "choice 1 a", "number 3", "x y z", ""):
                for at in range(len(text) + 1):
                    self.check([(text[:at] + sign + text[at:], 0)])
            self.check([("number 3 2 fill " + sign, 0), ("choice 1 " + sign, 0), ("word =" + sign + " 1 2", 0)])

    def test_what_is_no_text(self):
        for thing in no_texts() + [b"number 3 2", ["number", "3", "2"], ("number 3 2",)]:
            self.assertIs(refusal_of(read_form, thing), NoForm)
            self.assertEqual(at_of(thing), 0)

    def test_long_texts(self):
        self.check([("number 3 2" + " x" * 195, 3), ("x" * 400, 0), (" " * 400, 0), ("choice 12 " + "a" * 390, 2)])


class Told(unittest.TestCase):
    """5.5 over many texts, by the words of the document: the first word with which no form begins."""

    TEXTS = ("number 3 2", "number 12 0 base 16 strict", "number 3 2 groups 3 , width 12 fill * side inside strict",
             "number 1 1 base 2 sign plus groups 9 blank point , way even width 4 fill blank side middle strict",
             "number 1 0 sign blank width 1 strict", "number 1 6 point . side left", "word =ab 1 3 blank width 4",
             "word all 0 24 strict", "word lower 2 2 width 2 fill _ side right strict",
             "word figures 2 3 width 1 strict", "choice 3 yes no maybe width 2 strict",
             "choice 2 width 3 width 1 fill 0 side left strict", "choice 1 strict strict", "choice 4 a b c d fill a")
    POOL = ["", "number", "word", "choice", "0", "1", "2", "3", "6", "7", "9", "10", "12", "13", "16", "17", "24", "25",
            "40", "41", "01", "x", "-", "base", "sign", "groups", "point", "way", "width", "fill", "side", "strict",
            "blank", "lower", "all", "=", "=ab", "=ba", "minus", "near", "left", "inside", "middle", "yes", "\t", "a"]

    def test_the_checks_see_forms(self):
        self.assertEqual(at_told("number 3 2 width 3 strict"), 5)
        self.assertEqual(at_told("number 3 2 width 4 strict"), None)
        self.assertEqual(at_told("choice 2 a"), 3)

    def check(self, words):
        text = " ".join(words)
        self.assertEqual(at_of(text), at_told(text), repr(text))

    def test_a_word_more_less_or_another(self):
        for text in self.TEXTS:
            words = text.split(" ")
            self.check(words)
            for at in range(len(words) + 1):
                self.check(words[:at])
                self.check(words[:at] + words[at + 1:])
                self.check(words[:at] + words[at:at + 1] + words[at:])
                self.check(words[:at] + words[at + 1:at + 2] + words[at:at + 1] + words[at + 2:])
                for word in self.POOL:
                    self.check(words[:at] + [word] + words[at:])
                    self.check(words[:at] + [word] + words[at + 1:])

    def test_all_short_rows_of_words(self):
        for start in ("number 3 2", "number 1 0 width 1", "word lower 1 2", "word =ab 0 2 blank", "choice 2",
                      "choice 1 a"):
            for words in itertools.product(self.POOL[::2] + ["strict", "width", "5"], repeat=2):
                self.check(start.split(" ") + list(words))


if __name__ == "__main__":
    unittest.main()
