"""The interface: the modules, names and arguments as the document lists them."""

import importlib
import inspect
import unittest

from tautroads import errors
from tautroads.books import Book
from tautroads.desk import Desk

LISTED = {
    "nets": ["is_way(net, one, other, way)", "length_of(net, one, other, way)"],
    "heights": ["heights(net)", "shows_heights(net, told)", "shows_ring(net, way)"],
    "least": ["least(net, one, other)", "shows_least(net, one, other, told)"],
    "tables": ["table(net)", "table_with(table, road)", "window(net, one, other)"],
    "falls": ["fall(net, number)"],
    "shut": [
        "by(net, one, other, number)", "without(net, one, other, number)",
        "tight(net, one, other)", "needed(net, one, other)", "detours(net, one, other)",
    ],
    "stops": ["counted(net, one, other, k)", "through(net, stops)", "best_order(net, stops)"],
    "two": ["unlike(one, other)", "clash(one, other)"],
    "texts": ["show_road(name, one, other, length)", "show_book(book)", "read_road(text)", "read_book(text)"],
    "books": ["Book()"],
    "desk": ["Desk()"],
}
METHODS = {
    "Book": [
        "place(self, name)", "road(self, name, one, other, length)", "away(self, name)", "out(self, name)",
        "length(self, name, number)", "turn(self, name)", "pour(self, book)", "back(self)", "again(self)", "places(self)",
        "roads(self)", "ends(self, name)", "net(self)", "heights(self)", "least(self, one, other)", "window(self, one, other)",
        "fall(self, name)", "by(self, one, other, name)", "without(self, one, other, name)", "tight(self, one, other)",
        "needed(self, one, other)", "twin(self)",
    ],
    "Desk": ["say(self, line)"],
}
ERRORS = [
    "RoadError", "NoNet", "NoPlace", "NoRoad", "NoWay", "NoTaut", "NoCount", "NoName", "Twice", "NoLength", "Full", "Ring",
    "NoDeed", "NoBook", "NoText", "NoLine",
]


class Interface(unittest.TestCase):
    def test_each_name_stands_in_its_module_with_its_arguments(self):
        for file_name, lines in LISTED.items():
            module = importlib.import_module(f"tautroads.{file_name}")
            for line in lines:
                with self.subTest(module=file_name, line=line):
                    name = line.partition("(")[0]
                    found = getattr(module, name)
                    self.assertEqual(name + str(inspect.signature(found)), line)
                    self.assertEqual(found.__module__, module.__name__)

    def test_each_method_stands_in_the_body_of_its_class(self):
        for found in (Book, Desk):
            for line in METHODS[found.__name__]:
                with self.subTest(line):
                    name = line.partition("(")[0]
                    self.assertEqual(name + str(inspect.signature(vars(found)[name])), line)

    def test_each_class_of_refusal(self):
        for name in ERRORS:
            self.assertEqual(getattr(errors, name).__module__, "tautroads.errors")


if __name__ == "__main__":
    unittest.main()
