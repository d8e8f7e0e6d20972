import inspect
import unittest

from padwright.forms import Form
from padwright.numbers import NumberForm
from padwright.words import ChoiceForm, WordForm
from things import FIELDS, STYLES, fields_of

NUMBER = dict(zip(FIELDS[NumberForm], [6, 2, 16, "brackets", 3, "_", ";", "even", 9, "*", "inside", True]))
WORD = dict(zip(FIELDS[WordForm], ["abc", 1, 4, 7, "-", "middle", True]))
CHOICE = dict(zip(FIELDS[ChoiceForm], [["yes", "no"], 5, ".", "right", True]))
MADE = ((NumberForm, NUMBER), (WordForm, WORD), (ChoiceForm, CHOICE))


class Fields(unittest.TestCase):
    """4.6 and the interface: the classes, their arguments and fields."""

    def test_form_by_itself(self):
        form = Form(7, "*", "middle", True)
        self.assertEqual((form.width, form.fill, form.side, form.strict), (7, "*", "middle", True))
        named = Form(strict=False, side="left", fill=" ", width=0)
        self.assertEqual((named.width, named.fill, named.side, named.strict), (0, " ", "left", False))
        for made in (NumberForm, WordForm, ChoiceForm):
            self.assertNotIsInstance(form, made)

    def test_the_three_stand_under_form_and_not_under_one_another(self):
        for made, fields in MADE:
            self.assertEqual(made.__mro__, (made, Form, object))

    def test_fields_by_place_and_by_name(self):
        for made, fields in MADE:
            self.assertEqual(fields_of(made(*fields.values())), fields)
            self.assertEqual(fields_of(made(**fields)), fields)
            self.assertEqual(fields_of(made(**dict(reversed(fields.items())))), fields)

    def test_arguments_and_their_defaults(self):
        asked = {
            Form: [(name, None) for name in ("width", "fill", "side", "strict")],
            NumberForm: list(zip(FIELDS[NumberForm], [
                None, None, 10, "minus", 0, ",", ".", "near", 0, " ", "right", False])),
            WordForm: list(zip(FIELDS[WordForm], [None, None, None, 0, " ", "left", False])),
            ChoiceForm: list(zip(FIELDS[ChoiceForm], [None, 0, " ", "left", False])),
        }
        for made, arguments in asked.items():
            told = inspect.signature(made).parameters.values()
            self.assertEqual([(argument.name, None if argument.default is argument.empty else argument.default)
                              for argument in told], arguments)

    def test_defaults_are_fields(self):
        self.assertEqual(fields_of(NumberForm(3, 1)), dict(zip(FIELDS[NumberForm], [
            3, 1, 10, "minus", 0, ",", ".", "near", 0, " ", "right", False])))
        self.assertEqual(fields_of(WordForm("ab", 0, 2)),
                         dict(zip(FIELDS[WordForm], ["ab", 0, 2, 0, " ", "left", False])))
        self.assertEqual(fields_of(ChoiceForm(["ab"])),
                         dict(zip(FIELDS[ChoiceForm], [["ab"], 0, " ", "left", False])))

    def test_methods_take_their_arguments_by_name(self):
        for form, value, text in ((NumberForm(3, 1, width=5), (-1, 2), " -0.5"), (WordForm("ab", 1, 2, 3), "ab", "ab "),
                                  (ChoiceForm(["ab", "c"], 3), "ab", "ab ")):
            self.assertEqual(form.core(value=value), text.strip())
            self.assertEqual(form.put(value=value), text)
            self.assertEqual(form.values_for(text=text), [value])
            self.assertEqual(form.value_of(text=text), value)
            self.assertEqual(form.widened(width=4).width, 4)

    def test_forms_have_fields_of_their_own(self):
        one, other = NumberForm(3, 1), NumberForm(2, 0, width=7)
        self.assertEqual((one.figures, one.width, other.figures, other.width), (3, 0, 2, 7))
        self.assertIsNot(ChoiceForm(["a"]).names, ChoiceForm(["a"]).names)


class Widened(unittest.TestCase):
    """4.6: widened."""

    def test_all_else_is_alike(self):
        for made, fields in MADE:
            for width in (0, 1, fields["width"] - 1, fields["width"], fields["width"] + 1, 40):
                form = made(**fields)
                wide = form.widened(width)
                self.assertIs(wide.__class__, made)
                self.assertIsNot(wide, form)
                self.assertEqual(fields_of(wide), dict(fields, width=width))
                self.assertEqual(fields_of(form), fields)

    def test_each_field_alone(self):
        for made, fields in MADE:
            plain = made(*[fields[name] for name in fields][:{NumberForm: 2, WordForm: 3, ChoiceForm: 1}[made]])
            for name in fields:
                told = dict(fields_of(plain), **{name: fields[name]})
                self.assertEqual(fields_of(made(**told).widened(11)), dict(told, width=11))

    def test_it_puts_in_the_new_width(self):
        form = NumberForm(3, 1, sign="plus", width=5, fill="*", side="inside")
        self.assertEqual((form.put((1, 2)), form.widened(7).put((1, 2)), form.widened(0).put((1, 2))),
                         ("+*0.5", "+***0.5", "+0.5"))
        self.assertEqual(form.put((1, 2)), "+*0.5")
        self.assertEqual(form.widened(7).value_of("+***0.5"), (1, 2))
        self.assertEqual(WordForm("ab", 0, 3, 1).widened(3).put("a"), "a  ")
        self.assertEqual(ChoiceForm(["ab"], 1, "*", "right").widened(3).put("ab"), "*ab")


class Shortest(unittest.TestCase):
    """Whether a form puts some value."""

    def test_numbers(self):
        for style in STYLES:
            for places in range(7):
                # Told by all numbers of one figure ahead of the point, those below nought too.
                loose = NumberForm(1, places, 2, style)
                shortest = min(len(loose.put((k, 1))) for k in (-1, 0, 1))
                for width in range(12):
                    form = NumberForm(1, places, 2, style, width=width, strict=True)
                    self.assertIs(form.puts_some(), width >= shortest)
                    self.assertIs(loose.widened(width).puts_some(), True)

    def test_words_and_names(self):
        for width in range(5):
            for least in range(5):
                self.assertIs(WordForm("ab", least, 5, width, strict=True).puts_some(), least <= width)
                self.assertIs(WordForm("a", least, 5, width, strict=True).puts_some(), least <= width)
                self.assertIs(WordForm("ab", least, 5, width).puts_some(), True)
            self.assertIs(ChoiceForm(["abc", "de", "fghi"], width, strict=True).puts_some(), width >= 2)
            self.assertIs(ChoiceForm(["abc", "de", "fghi"], width).puts_some(), True)


if __name__ == "__main__":
    unittest.main()
