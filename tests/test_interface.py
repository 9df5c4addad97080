"""What DOC.md lists in its interface exists under its name, where and as it is listed."""

import importlib
import inspect
import unittest

from manydoors import errors
from manydoors.inn import Book
from manydoors.wire import Wire

FUNCTIONS = {
    "manydoors.inn": {
        "check_setup": ["setup"],
        "check_deed": ["setup", "deed"],
        "needs_of": ["party"],
        "price_of": ["setup", "party"],
        "kept_of": ["setup", "party"],
        "housing": ["rooms", "stays", "night", "given"],
    },
}

METHODS = {
    ("manydoors.inn", "Book"): {
        "__init__": ["self", "rooms", "nights"],
        "wish": ["self", "name", "party"],
        "cancel": ["self", "name"],
        "change": ["self", "name", "party"],
        "parties": ["self"],
        "free": ["self", "kind", "night"],
    },
    ("manydoors.wire", "Wire"): {
        "__init__": ["self"],
        "send": ["self", "body"],
        "take": ["self", "number"],
        "acknowledged": ["self", "number"],
    },
}

ERRORS = ["BadSetup", "BadDeed", "BadStay", "BadHistory", "BadText", "BadLine"]


class InterfaceTest(unittest.TestCase):
    def test_functions_are_defined_where_they_are_listed(self):
        for module_name, functions in FUNCTIONS.items():
            module = importlib.import_module(module_name)
            for name, parameters in functions.items():
                with self.subTest(function=name):
                    function = getattr(module, name)
                    self.assertEqual(function.__module__, module_name)
                    self.assertEqual(list(inspect.signature(function).parameters), parameters)

    def test_methods_are_defined_in_their_class_itself(self):
        for (module_name, class_name), methods in METHODS.items():
            found = getattr(importlib.import_module(module_name), class_name)
            self.assertEqual(found.__module__, module_name)
            for name, parameters in methods.items():
                with self.subTest(method=f"{class_name}.{name}"):
                    self.assertIn(name, vars(found))
                    self.assertEqual(list(inspect.signature(vars(found)[name]).parameters), parameters)

    def test_arguments_may_be_passed_by_their_names(self):
        book = Book(rooms=(1,), nights=2)
        self.assertIs(book.wish(name=(0, 0), party=((0, 0, 1),)), True)
        self.assertIs(book.change(name=(0, 0), party=((0, 1, 2),)), True)
        self.assertEqual(book.free(kind=0, night=1), 0)
        self.assertIs(book.cancel(name=(0, 0)), True)
        wire = Wire()
        self.assertEqual(wire.send(body=("give", 0, 0)), 0)
        self.assertIs(wire.take(number=0), True)
        wire.acknowledged(number=0)
        self.assertEqual(wire.outbox, [])


class ErrorsTest(unittest.TestCase):
    def test_the_error_of_all_is_directly_under_value_error(self):
        self.assertEqual(errors.ManydoorsError.__bases__, (ValueError,))

    def test_each_error_is_directly_under_it_and_none_under_another(self):
        for name in ERRORS:
            with self.subTest(error=name):
                error = getattr(errors, name)
                self.assertEqual(error.__bases__, (errors.ManydoorsError,))
                self.assertEqual(error.__module__, "manydoors.errors")
                self.assertEqual(error.__name__, name)

    def test_the_errors_are_six_classes_of_their_own(self):
        self.assertEqual(len({getattr(errors, name) for name in ERRORS}), 6)


if __name__ == "__main__":
    unittest.main()
