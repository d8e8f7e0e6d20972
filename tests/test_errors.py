import inspect
import unittest

from padwright import errors
from padwright.errors import (
    NoBody, NoCore, NoFigures, NoForm, NoGroups, NoLine, NoNumber, NoRow, NoSheet, NoText, NoValue,
    PadError, TooGreat, TooMany, TooWide, TwoRows, TwoValues,
)

PLAIN = [NoNumber, NoFigures, NoGroups, NoBody, NoCore, NoValue, TooGreat, TooWide, NoText, NoSheet, NoRow]
REFUSALS = PLAIN + [TwoValues, NoForm, NoLine, TooMany, TwoRows]


def made():
    """One of each refusal."""
    return [refusal() for refusal in PLAIN] + [
        TwoValues([(1, 2), (5, 1)]), NoForm(3), NoLine(4), TooMany(501), TwoRows(0, ["a"], ["b"])]


class Standing(unittest.TestCase):
    """0.5: where the refusals stand."""

    def test_pad_error_stands_straight_under_value_error(self):
        self.assertEqual(PadError.__bases__, (ValueError,))

    def test_each_stands_straight_under_pad_error(self):
        for refusal in REFUSALS:
            with self.subTest(refusal=refusal.__name__):
                self.assertEqual(refusal.__bases__, (PadError,))
                self.assertTrue(issubclass(refusal, ValueError))

    def test_none_stands_under_another(self):
        for one in REFUSALS:
            for other in REFUSALS:
                if one is not other:
                    self.assertFalse(issubclass(one, other), (one, other))

    def test_they_are_all_unlike_and_called_as_told(self):
        self.assertEqual(len(set(REFUSALS)), 16)
        told = {name for name, thing in vars(errors).items() if inspect.isclass(thing)}
        self.assertEqual(told, {refusal.__name__ for refusal in REFUSALS} | {"PadError"})

    def test_each_is_taken_as_itself_as_pad_error_and_as_value_error(self):
        for refusal in made():
            for caught in (refusal.__class__, PadError, ValueError):
                with self.subTest(refusal=refusal.__class__.__name__, caught=caught.__name__):
                    with self.assertRaises(caught) as taken:
                        raise refusal
                    self.assertIs(taken.exception, refusal)

    def test_none_is_taken_as_another(self):
        for refusal in made():
            others = tuple(other for other in REFUSALS if other is not refusal.__class__)
            self.assertNotIsInstance(refusal, others)


class Making(unittest.TestCase):
    """1.6: how the refusals are made, and their fields."""

    def test_plain_ones_are_made_with_one_text_or_nothing(self):
        for refusal in PLAIN + [PadError]:
            with self.subTest(refusal=refusal.__name__):
                self.assertIsInstance(refusal(), refusal)
                self.assertIsInstance(refusal("some words"), refusal)
                self.assertIsInstance(refusal(""), refusal)

    def test_all_can_be_shown(self):
        for refusal in made():
            self.assertIsInstance(str(refusal), str)
            self.assertIsInstance(repr(refusal), str)

    def test_at_of_no_form_and_no_line(self):
        for refusal in (NoForm, NoLine):
            for at in (0, 1, 5, 399):
                self.assertEqual(refusal(at).at, at)
                self.assertEqual(refusal(at=at).at, at)

    def test_number_of_too_many(self):
        for number in (501, 502, 19680):
            self.assertEqual(TooMany(number).number, number)
            self.assertEqual(TooMany(number=number).number, number)

    def test_told_of_two_values(self):
        for told in ([(-5, 1), (5, 1)], ["a", "a "], [], [(10 ** 60 - 1, 10 ** 59)]):
            self.assertEqual(TwoValues(told).told, told)
            self.assertIsInstance(TwoValues(told).told, list)
            self.assertEqual(TwoValues(told=told).told, told)

    def test_fields_of_two_rows(self):
        refusal = TwoRows(7, [(1, 2), "a"], [(1, 2), "a "])
        self.assertEqual((refusal.at, refusal.one, refusal.other), (7, [(1, 2), "a"], [(1, 2), "a "]))
        self.assertIsInstance(refusal.one, list)
        self.assertIsInstance(refusal.other, list)
        refusal = TwoRows(at=0, one=["x"], other=["y"])
        self.assertEqual((refusal.at, refusal.one, refusal.other), (0, ["x"], ["y"]))

    def test_fields_are_wanted(self):
        for refusal in (TwoValues, NoForm, NoLine, TooMany, TwoRows):
            with self.assertRaises(TypeError):
                refusal()


class OwnLists(unittest.TestCase):
    """0.3 and 1.6: the lists that a refusal bears are its own."""

    def test_told_stays_when_the_list_is_changed_behind(self):
        told = [(-5, 1), (5, 1)]
        refusal = TwoValues(told)
        words = str(refusal)
        told.append((6, 1))
        told[0] = None
        self.assertEqual(refusal.told, [(-5, 1), (5, 1)])
        self.assertEqual(str(refusal), words)

    def test_rows_stay_when_the_lists_are_changed_behind(self):
        one, other = [(1, 1), "a"], [(2, 1), "b"]
        refusal = TwoRows(3, one, other)
        words = str(refusal)
        one.clear()
        other[1] = "c"
        self.assertEqual((refusal.at, refusal.one, refusal.other), (3, [(1, 1), "a"], [(2, 1), "b"]))
        self.assertEqual(str(refusal), words)

    def test_one_list_for_both_rows_is_two_lists(self):
        row = ["a"]
        refusal = TwoRows(0, row, row)
        refusal.one.append("b")
        self.assertEqual(refusal.other, ["a"])
        self.assertEqual(row, ["a"])

    def test_what_was_handed_in_is_not_changed_through_the_fields(self):
        told = ["a", "b"]
        first, second = TwoValues(told), TwoValues(told)
        first.told.append("c")
        self.assertEqual(told, ["a", "b"])
        self.assertEqual(second.told, ["a", "b"])

    def test_the_lists_handed_in_are_kept_nowhere(self):
        told, one, other = ["a", "b"], ["c"], ["d"]
        for refusal in (TwoValues(told), TwoRows(0, one, other)):
            for kept in list(refusal.args) + list(vars(refusal).values()):
                for handed in (told, one, other):
                    self.assertIsNot(kept, handed)

    def test_what_is_refused_is_borne_through_a_raise(self):
        told = ["a", "b"]
        with self.assertRaises(TwoValues) as taken:
            raise TwoValues(told)
        told.clear()
        self.assertEqual(taken.exception.told, ["a", "b"])


if __name__ == "__main__":
    unittest.main()
