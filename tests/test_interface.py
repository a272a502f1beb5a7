"""The interface: the modules, names and arguments as the document lists them."""

import importlib
import inspect
import unittest

LISTED = {
    "nets": ["is_way(net, one, other, way)", "length_of(net, one, other, way)"],
    "heights": ["heights(net)", "shows_heights(net, told)", "shows_ring(net, way)"],
    "least": ["least(net, one, other)", "shows_least(net, one, other, told)"],
    "tables": ["table(net)", "table_with(table, road)", "window(net, one, other)"],
    "falls": ["fall(net, number)"],
    "shut": [
        "by(net, one, other, number)", "without(net, one, other, number)",
        "tight(net, one, other)", "needed(net, one, other)", "detours(net, one, other)",
    ],
    "stops": ["counted(net, one, other, k)", "through(net, stops)", "best_order(net, stops)"],
}


class Interface(unittest.TestCase):
    def test_each_function_stands_in_its_module_with_its_arguments(self):
        for file_name, lines in LISTED.items():
            module = importlib.import_module(f"tautroads.{file_name}")
            for line in lines:
                with self.subTest(module=file_name, line=line):
                    name = line.partition("(")[0]
                    found = getattr(module, name)
                    self.assertEqual(name + str(inspect.signature(found)), line)
                    self.assertEqual(found.__module__, module.__name__)


if __name__ == "__main__":
    unittest.main()
