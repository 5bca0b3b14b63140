"""The interface: names and arguments of the functions, each defined in its own file."""

import importlib
import inspect
import unittest

INTERFACE = {
    "nests": [
        "inside(nest, door)", "around(nest, door)", "at_once(nest, door)", "sizes(nest)", "depths(nest)",
        "mixings(nest)", "free_numbers(nest)", "last_numbers(nest)", "first_numbers(nest)",
        "kept_numbers(nest, numbers)",
    ],
    "nesttext": ["write_nest(nest, numbers)", "read_nest(text)"],
    "orders": [
        "ranks(nest, order)", "order_inside(nest, order, door)", "with_ranks(nest, some)",
        "put_in(nest, order, door, rank)", "allows(nest, numbers, order)", "order_count(nest, numbers)",
    ],
}


class Interface(unittest.TestCase):
    def test_functions(self):
        for file, calls in INTERFACE.items():
            module = importlib.import_module(f"countdoors.{file}")
            for call in calls:
                with self.subTest(file=file, call=call):
                    name = call.partition("(")[0]
                    function = getattr(module, name)
                    self.assertEqual(function.__module__, f"countdoors.{file}")
                    self.assertEqual(name + str(inspect.signature(function)), call)


if __name__ == "__main__":
    unittest.main()
