"""The names, parameters and constants of the interface, each in its own module."""

import importlib
import inspect
import unittest

FUNCTIONS = {
    "fetchunseen.base.fields": (
        "is_prime(value)", "next_prime(number)", "inverse(prime, letter)", "power(prime, letter, times)",
        "letters_at(prime, many, number)", "number_at(prime, letters)", "root(prime)",
        "exponent_of(prime, base, letter)",
    ),
    "fetchunseen.base.rows": (
        "dot(prime, one, other)", "plus(prime, one, other)", "multiple(prime, row, letter)", "rank(prime, rows)",
        "basis(prime, rows)", "kernel(prime, width, rows)", "relations(prime, rows)",
        "parts_or_look(prime, rows, goal)", "is_parts_or_look(prime, rows, goal, value)",
        "product(prime, one, other)", "inverse_table(prime, table)",
    ),
}
CONSTANTS = {
    "fetchunseen.base.fields": {"MOST_PRIME": 9973, "MOST_TIMES": 10 ** 9},
    "fetchunseen.base.rows": {"MOST_ROWS": 200, "MOST_WIDTH": 100},
}


class TestInterface(unittest.TestCase):
    def test_functions(self):
        for module_name, told in FUNCTIONS.items():
            module = importlib.import_module(module_name)
            for line in told:
                name = line.partition("(")[0]
                function = getattr(module, name)
                self.assertEqual(name + str(inspect.signature(function)), line)
                self.assertEqual((function.__module__, function.__name__), (module_name, name))

    def test_constants(self):
        for module_name, told in CONSTANTS.items():
            module = importlib.import_module(module_name)
            for name, value in told.items():
                self.assertEqual(getattr(module, name), value)
                self.assertIs(type(getattr(module, name)), int)


if __name__ == "__main__":
    unittest.main()
