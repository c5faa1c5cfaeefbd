"""The names, parameters and constants of the interface, each in its own module."""

import importlib
import inspect
import unittest

FUNCTIONS = {
    "fetchunseen.base.fields": (
        "is_prime(value)", "next_prime(number)", "inverse(prime, letter)", "power(prime, letter, times)",
        "letters_at(prime, many, number)", "number_at(prime, letters)", "root(prime)",
        "exponent_of(prime, base, letter)",
    ),
    "fetchunseen.base.rows": (
        "dot(prime, one, other)", "plus(prime, one, other)", "multiple(prime, row, letter)", "rank(prime, rows)",
        "basis(prime, rows)", "kernel(prime, width, rows)", "relations(prime, rows)",
        "parts_or_look(prime, rows, goal)", "is_parts_or_look(prime, rows, goal, value)",
        "product(prime, one, other)", "inverse_table(prime, table)",
    ),
    "fetchunseen.base.ranks": (
        "rank_paper(prime, rows)", "is_rank_paper(prime, rows, value)", "rank_of(prime, rows, places)",
        "rank_beside(prime, rows, columns)", "meet_of(prime, one, other)", "both_ranks(prime, one, other)",
        "cover_numbers(prime, rows, lots, cover)",
    ),
    "fetchunseen.base.fractions": (
        "is_fraction(value)", "fraction(top, bottom)", "plus(one, other)", "less(one, other)", "times(one, other)",
        "over(one, other)", "compared(one, other)", "added(fractions)", "mean(pairs)", "powers_added(one, many)",
    ),
    "fetchunseen.lots.lots": (
        "is_lots(houses, value)", "greatest_lots(houses, lots)", "free_houses(houses, lots)", "lone_lots(houses)",
        "all_lots(houses, most)", "are_within(houses, lots, others)", "exchanged_lots(houses, lots, order)",
        "spread_lots(houses, lots, parts)",
    ),
    "fetchunseen.lots.weights": (
        "is_weights(houses, lots, value)", "is_cover(houses, lots, value)", "sum_of(fractions)",
        "lot_sums_of(houses, lots, weights)", "weights_answer(houses, lots)",
        "is_weights_answer(houses, lots, value)", "parts_of(houses, lots)",
    ),
}
CONSTANTS = {
    "fetchunseen.base.fields": {"MOST_PRIME": 9973, "MOST_TIMES": 10 ** 9},
    "fetchunseen.base.rows": {"MOST_ROWS": 200, "MOST_WIDTH": 100},
    "fetchunseen.base.fractions": {"MOST_ADDED": 100},
    "fetchunseen.lots.lots": {"MOST_HOUSES": 6, "MOST_LOTS": 12},
    "fetchunseen.lots.weights": {"MOST_PARTS": 6},
}


class TestInterface(unittest.TestCase):
    def test_functions(self):
        for module_name, told in FUNCTIONS.items():
            module = importlib.import_module(module_name)
            for line in told:
                name = line.partition("(")[0]
                function = getattr(module, name)
                self.assertEqual(name + str(inspect.signature(function)), line)
                self.assertEqual((function.__module__, function.__name__), (module_name, name))

    def test_constants(self):
        for module_name, told in CONSTANTS.items():
            module = importlib.import_module(module_name)
            for name, value in told.items():
                self.assertEqual(getattr(module, name), value)
                self.assertIs(type(getattr(module, name)), int)


if __name__ == "__main__":
    unittest.main()
