import unittest

from padwright.formreader import read_form
from padwright.looks import looks_of
from padwright.numbers import NumberForm
from padwright.words import ChoiceForm, WordForm
from things import (ALL_FIGURES, ALL_SIDES, ENDS, SIGNS, STYLES, fields_of, odd_numbers, small_numbers, small_words,
                    values_by_look)

TEN = "0123456789"
NINE = "123456789"


def cells_told(texts):
    """The cells of a look: the signs that all texts that have it, together, have at each place."""
    return ["".join(sorted(set(signs))) for signs in zip(*texts)]


class Told(unittest.TestCase):
    def check(self, form):
        """A small form against all of its values, each put into its look by the words of 6.3."""
        asked = [cells_told([text for value, text in values]) for values in values_by_look(form)]
        self.assertEqual(looks_of(form), asked, vars(form))


class Numbers(Told):
    """6.1, 6.3: looks of forms of numbers."""

    def test_without_places(self):
        self.assertEqual(looks_of(NumberForm(3, 0)), [
            [TEN], [NINE, TEN], [NINE, TEN, TEN],
            ["-", NINE], ["-", NINE, TEN], ["-", NINE, TEN, TEN]])

    def test_with_places(self):
        self.assertEqual(looks_of(NumberForm(2, 3)), [
            [TEN, ".", TEN, TEN, TEN], [NINE, TEN, ".", TEN, TEN, TEN],
            ["-", "0", ".", "0", "0", NINE], ["-", "0", ".", "0", NINE, TEN], ["-", "0", ".", NINE, TEN, TEN],
            ["-", NINE, ".", TEN, TEN, TEN], ["-", NINE, TEN, ".", TEN, TEN, TEN]])

    def test_one_figure_and_one_place(self):
        self.assertEqual(looks_of(NumberForm(1, 1, 2)), [
            ["01", ".", "01"], ["-", "0", ".", "1"], ["-", "1", ".", "01"]])

    def test_each_base(self):
        for base in range(2, 17):
            every = ALL_FIGURES[:base]
            self.assertEqual(looks_of(NumberForm(2, 1, base)), [
                [every, ".", every], [every[1:], every, ".", every],
                ["-", "0", ".", every[1:]], ["-", every[1:], ".", every], ["-", every[1:], every, ".", every]])

    def test_each_style(self):
        for style in STYLES:
            lead, tail = ENDS[style, False]
            below_lead, below_tail = ENDS[style, True]
            self.assertEqual(looks_of(NumberForm(1, 0, sign=style)), [
                list(lead) + [TEN] + list(tail), list(below_lead) + [NINE] + list(below_tail)])

    def test_groups(self):
        form = NumberForm(4, 1, size=3, mark="'", point=",")
        self.assertEqual(looks_of(form)[3], [NINE, "'", TEN, TEN, TEN, ",", TEN])
        self.assertEqual(looks_of(form)[2], [NINE, TEN, TEN, ",", TEN])
        self.assertEqual(looks_of(form)[-1], ["-", NINE, "'", TEN, TEN, TEN, ",", TEN])
        self.assertEqual(looks_of(NumberForm(3, 2, size=1))[2], [NINE, ",", TEN, ",", TEN, ".", TEN, TEN])
        self.assertEqual(looks_of(NumberForm(3, 2, size=1))[3], ["-", "0", ".", "0", NINE])
        for size in range(10):
            for look in looks_of(NumberForm(12, 0, size=size, mark="_"))[:12]:
                figures = len([cell for cell in look if cell != "_"])
                self.assertEqual(len(look) - figures, (figures - 1) // size if size else 0)

    def test_each_side(self):
        told = {"left": ([TEN, "*", "*", "*"], ["(", NINE, ")", "*"]),
                "right": (["*", "*", "*", TEN], ["*", "(", NINE, ")"]),
                "middle": (["*", TEN, "*", "*"], ["(", NINE, ")", "*"]),
                "inside": (["*", "*", "*", TEN], ["(", "*", NINE, ")"])}
        for side, looks in told.items():
            form = NumberForm(1, 0, sign="brackets", width=4, fill="*", side=side)
            self.assertEqual(looks_of(form), list(looks))

    def test_inside_of_each_style(self):
        told = {"minus": (["*", "*", TEN], ["-", "*", NINE]), "plus": (["+", "*", TEN], ["-", "*", NINE]),
                "blank": ([" ", "*", TEN], ["-", "*", NINE]), "brackets": (["*", "*", TEN], ["(", NINE, ")"]),
                "behind": (["*", "*", TEN], ["*", NINE, "-"])}
        for style, looks in told.items():
            form = NumberForm(1, 0, sign=style, width=3, fill="*", side="inside")
            self.assertEqual(looks_of(form), list(looks))

    def test_strict_forms_leave_out_what_they_refuse(self):
        looks = [[TEN], [NINE, TEN], [NINE, TEN, TEN], ["-", NINE], ["-", NINE, TEN], ["-", NINE, TEN, TEN]]
        for width, kept in ((0, []), (1, [0]), (2, [0, 1, 3]), (3, [0, 1, 2, 3, 4]), (4, [0, 1, 2, 3, 4, 5])):
            told = looks_of(NumberForm(3, 0, width=width, strict=True))
            self.assertEqual(told, [[" "] * (width - len(looks[at])) + looks[at] for at in kept])
        for places in range(1, 7):
            self.assertEqual(looks_of(NumberForm(12, places, width=places + 1, strict=True)), [])
            # Of those below nought none fits, of the others just the first one.
            self.assertEqual(looks_of(NumberForm(12, places, width=places + 2, strict=True)),
                             [[TEN, "."] + [TEN] * places])
            self.assertEqual(len(looks_of(NumberForm(12, places, width=places + 3, strict=True))), 3 + places)

    def test_all_small_ones(self):
        for form in small_numbers((0, 1, 2, 3, 4, 5, 6, 7, 9)):
            self.check(form)

    def test_odd_marks_points_and_fills(self):
        for form in odd_numbers():
            self.check(form)

    def test_the_way_tells_nothing_of_looks(self):
        for way in ("down", "up", "cut", "near", "even"):
            self.assertEqual(looks_of(NumberForm(2, 1, way=way, width=5)), looks_of(NumberForm(2, 1, width=5)))

    def test_great_ones(self):
        form = NumberForm(12, 6, 16, "brackets", 9, "_", ";", "even", 40, "*", "inside")
        looks = looks_of(form)
        rest = [";"] + [ALL_FIGURES] * 6
        grouped = [ALL_FIGURES[1:], ALL_FIGURES, ALL_FIGURES, "_"] + [ALL_FIGURES] * 9
        self.assertEqual(len(looks), 12 + 6 + 12)
        self.assertEqual({len(look) for look in looks}, {40})
        self.assertEqual(looks[0], ["*"] * 32 + [ALL_FIGURES] + rest)
        self.assertEqual(looks[11], ["*"] * 20 + grouped + rest)
        self.assertEqual(looks[12], ["("] + ["*"] * 30 + ["0", ";"] + ["0"] * 5 + [ALL_FIGURES[1:], ")"])
        self.assertEqual(looks[17], ["("] + ["*"] * 30 + ["0", ";", ALL_FIGURES[1:]] + [ALL_FIGURES] * 5 + [")"])
        self.assertEqual(looks[18], ["("] + ["*"] * 30 + [ALL_FIGURES[1:]] + rest + [")"])
        self.assertEqual(looks[29], ["("] + ["*"] * 18 + grouped + rest + [")"])


class Words(Told):
    """6.1, 6.3: looks of forms of words and of names."""

    def test_words(self):
        self.assertEqual(looks_of(WordForm("ab", 1, 3)), [["ab"], ["ab", "ab"], ["ab", "ab", "ab"]])
        self.assertEqual(looks_of(WordForm("ab", 0, 2, 2, "*")), [["*", "*"], ["ab", "*"], ["ab", "ab"]])
        self.assertEqual(looks_of(WordForm("ab", 0, 0)), [[]])
        self.assertEqual(looks_of(WordForm(" .z", 2, 2, 5, "-", "middle")), [["-", " .z", " .z", "-", "-"]])
        self.assertEqual(looks_of(WordForm("ab", 0, 3, 1, "*", "right", True)), [["*"], ["ab"]])
        self.assertEqual(looks_of(WordForm("ab", 2, 3, 1, strict=True)), [])
        self.assertEqual(looks_of(WordForm("ab", 0, 3, strict=True)), [[]])

    def test_from_least_to_most(self):
        for least in range(25):
            for most in range(least, 25):
                self.assertEqual(looks_of(WordForm("xyz", least, most)),
                                 [["xyz"] * length for length in range(least, most + 1)])

    def test_all_signs(self):
        every = "".join(SIGNS)
        self.assertEqual(looks_of(WordForm(every, 24, 24)), [[every] * 24])
        self.assertEqual(looks_of(read_form("word all 1 1 blank")), [[every]])

    def test_names_in_their_order(self):
        self.assertEqual(looks_of(ChoiceForm(["yes", "no"])), [["y", "e", "s"], ["n", "o"]])
        self.assertEqual(looks_of(ChoiceForm(["yes", "no"], 3, "*", "right")), [["y", "e", "s"], ["*", "n", "o"]])
        self.assertEqual(looks_of(ChoiceForm(["zz", "a", "m"], 2, ".")), [["z", "z"], ["a", "."], ["m", "."]])
        self.assertEqual(looks_of(ChoiceForm(["abc", "d", "ef"], 2, "-", "left", True)), [["d", "-"], ["e", "f"]])
        self.assertEqual(looks_of(ChoiceForm(["abc"], 2, strict=True)), [])

    def test_names_with_alike_looks(self):
        self.assertEqual(looks_of(ChoiceForm(["a", "a*", "b"], 2, "*")), [["a", "*"], ["a", "*"], ["b", "*"]])
        self.assertEqual(looks_of(ChoiceForm(["0", "00", "000"], 3, "0")), [["0", "0", "0"]] * 3)

    def test_all_small_ones(self):
        for form in small_words(range(6)):
            self.check(form)


class Lists(unittest.TestCase):
    """0.3: lists that are told are the asker's own."""

    FORMS = (lambda: NumberForm(3, 2, size=1, width=8), lambda: NumberForm(2, 1), lambda: WordForm("ab", 0, 3, 2),
             lambda: WordForm("ab", 2, 2), lambda: ChoiceForm(["ab", "c", "c*"], 2, "*"),
             lambda: ChoiceForm(["0", "00"], 2, "0"), lambda: NumberForm(2, 1, width=7, side="inside"))

    def test_changes_of_the_list_and_of_those_within(self):
        for make in self.FORMS:
            form = make()
            asked = looks_of(make())
            for at in range(len(asked)):
                told = looks_of(form)
                told[at].append("x")
                self.assertEqual(told[:at] + told[at + 1:], asked[:at] + asked[at + 1:])
                told[at].clear()
                self.assertEqual(looks_of(form), asked)
            told = looks_of(form)
            told.clear()
            self.assertEqual(looks_of(form), asked)
            self.assertEqual(fields_of(form), fields_of(make()))

    def test_kinds(self):
        for make in self.FORMS:
            told = looks_of(make())
            self.assertIs(told.__class__, list)
            for look in told:
                self.assertIs(look.__class__, list)
                for cell in look:
                    self.assertIs(cell.__class__, str)
                    self.assertEqual(list(cell), sorted(set(cell)))
                    self.assertNotEqual(cell, "")

    def test_forms_stay_as_they_are(self):
        for side in ALL_SIDES:
            form = NumberForm(2, 1, 3, "plus", 1, "_", ";", "up", 6, "*", side, True)
            fields = fields_of(form)
            looks_of(form)
            self.assertEqual(fields_of(form), fields)


if __name__ == "__main__":
    unittest.main()
