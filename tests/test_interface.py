"""The interface: names, arguments, and the files in which they are defined."""

import importlib
import inspect
import unittest

from interface import CLASSES, FUNCTIONS, GENERATORS, METHODS, PROPERTIES, forms_of


class Interface(unittest.TestCase):
    def test_functions(self):
        for file in FUNCTIONS:
            module = importlib.import_module(f"fineststep.{file}")
            for form in forms_of(file):
                name = form.partition("(")[0]
                function = getattr(module, name)
                self.assertTrue(inspect.isfunction(function), name)
                self.assertEqual(function.__module__, module.__name__, name)
                self.assertEqual(name + str(inspect.signature(function)), form)
                self.assertEqual(inspect.isgeneratorfunction(function), name in GENERATORS)

    def test_classes(self):
        for file, forms in CLASSES.items():
            module = importlib.import_module(f"fineststep.{file}")
            for name, form in forms.items():
                found = getattr(module, name)
                self.assertEqual((found.__module__, str(inspect.signature(found))), (module.__name__, form))
                self.assertIn("__init__", vars(found))

    def test_free_is_a_class_method_of_book_itself(self):
        found = importlib.import_module("fineststep.books").Book
        self.assertIsInstance(vars(found)["free"], classmethod)
        self.assertEqual(str(inspect.signature(found.free)), "(names)")

    def test_the_methods_and_properties_of_a_desk_itself(self):
        found = importlib.import_module("fineststep.desk").Desk
        for name, form in METHODS.items():
            self.assertTrue(inspect.isfunction(vars(found)[name]), name)
            self.assertEqual(str(inspect.signature(vars(found)[name])), form)
        for name in PROPERTIES:
            self.assertIsInstance(vars(found)[name], property)
        self.assertIsInstance(vars(found)["replayed"], classmethod)
        self.assertEqual(str(inspect.signature(found.replayed)), "(model, deeds)")


if __name__ == "__main__":
    unittest.main()
