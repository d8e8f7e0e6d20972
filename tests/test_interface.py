"""The names and arguments of the functions and methods, as the interface tells them."""

import importlib
import inspect
import itertools
import unittest

FUNCTIONS = {
    "wholes": {"is_whole": "thing", "power_of": "base times"},
    "ratios": {"fraction": "top bottom", "is_fraction": "thing", "is_below": "one other", "difference": "one other"},
    "grids": {"gridded": "value base places way", "grid_value": "k base places"},
    "figures": {"figures_of": "number base", "number_of": "text base"},
    "groups": {"grouped": "text size mark", "ungrouped": "text size mark"},
    "bodies": {"body_of": "number base places point size mark", "number_in": "body base places point size mark"},
    "ends": {"ends_of": "style below", "signed": "body style below", "unsigned": "core style"},
    "pads": {"pads_of": "length width side", "padded": "text width fill side",
             "padded_inside": "lead rest width fill"},
    "strips": {"stripped": "text width fill side", "stripped_inside": "text lead width fill"},
    "formreader": {"read_form": "text"},
    "formwriter": {"show_form": "form"},
    "looks": {"looks_of": "form"},
    "lookfit": {"fits": "look text", "look_for": "form value", "value_in": "form at text"},
    "orders": {"in_order": "form"},
}
METHODS = {"core": "value", "put": "value", "values_for": "text", "value_of": "text", "widened": "width"}
CLASSES = {"numbers": ("NumberForm",), "words": ("WordForm", "ChoiceForm")}


class Interface(unittest.TestCase):
    def test_each_function_is_there_with_its_arguments(self):
        for file, functions in FUNCTIONS.items():
            module = importlib.import_module("padwright." + file)
            for name, arguments in functions.items():
                with self.subTest(file=file, name=name):
                    told = inspect.signature(getattr(module, name)).parameters.values()
                    self.assertEqual([argument.name for argument in told], arguments.split())
                    self.assertTrue(all(argument.default is argument.empty for argument in told))

    def test_each_method_is_there_with_its_arguments(self):
        for file, names in CLASSES.items():
            module = importlib.import_module("padwright." + file)
            for name, (method, arguments) in itertools.product(names, METHODS.items()):
                with self.subTest(name=name, method=method):
                    told = inspect.signature(getattr(getattr(module, name), method)).parameters.values()
                    self.assertEqual([argument.name for argument in told], ["self"] + arguments.split())
                    self.assertTrue(all(argument.default is argument.empty for argument in told))


if __name__ == "__main__":
    unittest.main()
