"""What DOC.md lists in its interface exists under its name, where and as it is listed."""

import importlib
import inspect
import unittest

from manydoors import errors
from manydoors.desk import Desk
from manydoors.house import House
from manydoors.inn import Book
from manydoors.judge import judge_books, judge_history, takings
from manydoors.seller import Seller
from manydoors.texts import format_book, format_history, format_party, parse_book, parse_history, parse_party
from manydoors.wire import Wire
from manydoors.world import World
from tests.samples import SETUP

FUNCTIONS = {
    "manydoors.inn": {
        "check_setup": ["setup"],
        "check_deed": ["setup", "deed"],
        "needs_of": ["party"],
        "price_of": ["setup", "party"],
        "kept_of": ["setup", "party"],
        "housing": ["rooms", "stays", "night", "given"],
    },
    "manydoors.judge": {
        "judge_books": ["seller_book", "house_book"],
        "judge_history": ["rooms", "nights", "history"],
        "takings": ["book"],
    },
    "manydoors.texts": {
        "format_party": ["party"],
        "parse_party": ["text"],
        "format_history": ["history"],
        "parse_history": ["text"],
        "format_book": ["book"],
        "parse_book": ["text"],
    },
}

METHODS = {
    ("manydoors.inn", "Book"): {
        "__init__": ["self", "rooms", "nights"],
        "wish": ["self", "name", "party"],
        "cancel": ["self", "name"],
        "change": ["self", "name", "party"],
        "parties": ["self"],
        "free": ["self", "kind", "night"],
    },
    ("manydoors.wire", "Wire"): {
        "__init__": ["self"],
        "send": ["self", "body"],
        "take": ["self", "number"],
        "acknowledged": ["self", "number"],
    },
    ("manydoors.seller", "Seller"): {
        "__init__": ["self", "setup", "number"],
        "ask": ["self", "deed"],
        "handle": ["self", "body"],
        "bodies": ["self"],
        "answers": ["self"],
    },
    ("manydoors.house", "House"): {
        "__init__": ["self", "setup"],
        "handle": ["self", "seller", "body"],
        "give": ["self", "seller", "kind", "night"],
        "want": ["self", "seller", "kind", "night"],
        "bodies": ["self"],
    },
    ("manydoors.world", "World"): {
        "__init__": ["self", "setup", "deeds"],
        "choose": ["self", "choice"],
        "settle": ["self"],
        "hands": ["self", "kind", "night"],
    },
    ("manydoors.desk", "Desk"): {
        "__init__": ["self"],
        "do": ["self", "line"],
    },
}

FIELDS = {
    "Seller": {"free": dict, "vouchers": dict, "book": list, "asked": dict, "waiting": list},
    "House": {"stock": dict, "books": list, "queue": list},
    "World": {
        "setup": tuple,
        "house": House,
        "sellers": list,
        "net": list,
        "history": list,
        "down": list,
        "deeds": list,
        "asked": list,
        "house_wires": list,
        "seller_wires": list,
    },
    "Wire": {"sent": int, "outbox": list, "expected": int},
}

ERRORS = ["BadSetup", "BadDeed", "BadStay", "BadHistory", "BadText", "BadLine"]


class InterfaceTest(unittest.TestCase):
    def test_functions_are_defined_where_they_are_listed(self):
        for module_name, functions in FUNCTIONS.items():
            module = importlib.import_module(module_name)
            for name, parameters in functions.items():
                with self.subTest(function=name):
                    function = getattr(module, name)
                    self.assertEqual(function.__module__, module_name)
                    self.assertEqual(list(inspect.signature(function).parameters), parameters)

    def test_methods_are_defined_in_their_class_itself(self):
        for (module_name, class_name), methods in METHODS.items():
            found = getattr(importlib.import_module(module_name), class_name)
            self.assertEqual(found.__module__, module_name)
            for name, parameters in methods.items():
                with self.subTest(method=f"{class_name}.{name}"):
                    self.assertIn(name, vars(found))
                    self.assertEqual(list(inspect.signature(vars(found)[name]).parameters), parameters)

    def test_arguments_may_be_passed_by_their_names(self):
        book = Book(rooms=(1,), nights=2)
        self.assertIs(book.wish(name=(0, 0), party=((0, 0, 1),)), True)
        self.assertIs(book.change(name=(0, 0), party=((0, 1, 2),)), True)
        self.assertEqual(book.free(kind=0, night=1), 0)
        self.assertIs(book.cancel(name=(0, 0)), True)
        wire = Wire()
        self.assertEqual(wire.send(body=("give", 0, 0)), 0)
        self.assertIs(wire.take(number=0), True)
        wire.acknowledged(number=0)
        self.assertEqual(wire.outbox, [])
        seller = Seller(setup=SETUP, number=1)
        self.assertEqual(seller.ask(deed=("cancel", 0)), 0)
        seller.handle(body=("give", 0, 0))
        house = House(setup=SETUP)
        self.assertIs(house.give(seller=1, kind=0, night=0), True)
        house.want(seller=1, kind=0, night=0)
        house.handle(seller=1, body=("back", 0, 0))
        world = World(setup=SETUP, deeds=[[], []])
        world.choose(choice=9)
        self.assertEqual(world.hands(kind=1, night=0), {("house",): 1})
        self.assertEqual(judge_books(seller_book=[], house_book=[]), ("alike",))
        self.assertEqual(judge_history(rooms=(1,), nights=1, history=[]), [])
        self.assertEqual(takings(book=[]), 0)
        self.assertEqual(format_party(party=((0, 0, 1),)), "0:0-1")
        self.assertEqual(parse_party(text="0:0-1"), ((0, 0, 1),))
        self.assertEqual((format_history(history=[]), format_book(book=[])), ("", ""))
        self.assertEqual((parse_history(text=""), parse_book(text="")), ([], []))
        self.assertEqual(Desk().do(line="inn 1 1 1"), "ready")

    def test_each_object_has_its_fields(self):
        made = [Wire(), Seller(SETUP, 0), House(SETUP), World(SETUP, [[], []])]
        for thing in made:
            for name, form in FIELDS[type(thing).__name__].items():
                with self.subTest(field=name):
                    self.assertIs(type(vars(thing)[name]), form)
        self.assertIn("closing", vars(made[1]))
        self.assertIn("round", vars(made[2]))


class ErrorsTest(unittest.TestCase):
    def test_the_error_of_all_is_directly_under_value_error(self):
        self.assertEqual(errors.ManydoorsError.__bases__, (ValueError,))

    def test_each_error_is_directly_under_it_and_none_under_another(self):
        for name in ERRORS:
            with self.subTest(error=name):
                error = getattr(errors, name)
                self.assertEqual(error.__bases__, (errors.ManydoorsError,))
                self.assertEqual(error.__module__, "manydoors.errors")
                self.assertEqual(error.__name__, name)

    def test_the_errors_are_six_classes_of_their_own(self):
        self.assertEqual(len({getattr(errors, name) for name in ERRORS}), 6)


if __name__ == "__main__":
    unittest.main()
