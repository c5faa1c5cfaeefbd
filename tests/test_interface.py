"""The names, parameters and constants of the interface, each in its own module."""

import importlib
import inspect
import unittest

FUNCTIONS = {
    "fetchunseen.base.fields": (
        "is_prime(value)", "next_prime(number)", "inverse(prime, letter)", "power(prime, letter, times)",
        "letters_at(prime, many, number)", "number_at(prime, letters)", "root(prime)",
        "exponent_of(prime, base, letter)",
    ),
    "fetchunseen.base.rows": (
        "dot(prime, one, other)", "plus(prime, one, other)", "multiple(prime, row, letter)", "rank(prime, rows)",
        "basis(prime, rows)", "kernel(prime, width, rows)", "relations(prime, rows)",
        "parts_or_look(prime, rows, goal)", "is_parts_or_look(prime, rows, goal, value)",
        "product(prime, one, other)", "inverse_table(prime, table)",
    ),
    "fetchunseen.base.ranks": (
        "rank_paper(prime, rows)", "is_rank_paper(prime, rows, value)", "rank_of(prime, rows, places)",
        "rank_beside(prime, rows, columns)", "meet_of(prime, one, other)", "both_ranks(prime, one, other)",
        "cover_numbers(prime, rows, lots, cover)",
    ),
    "fetchunseen.base.fractions": (
        "is_fraction(value)", "fraction(top, bottom)", "plus(one, other)", "less(one, other)", "times(one, other)",
        "over(one, other)", "compared(one, other)", "added(fractions)", "mean(pairs)", "powers_added(one, many)",
    ),
    "fetchunseen.lots.lots": (
        "is_lots(houses, value)", "greatest_lots(houses, lots)", "free_houses(houses, lots)", "lone_lots(houses)",
        "all_lots(houses, most)", "are_within(houses, lots, others)", "exchanged_lots(houses, lots, order)",
        "spread_lots(houses, lots, parts)",
    ),
    "fetchunseen.lots.weights": (
        "is_weights(houses, lots, value)", "is_cover(houses, lots, value)", "sum_of(fractions)",
        "lot_sums_of(houses, lots, weights)", "weights_answer(houses, lots)",
        "is_weights_answer(houses, lots, value)", "parts_of(houses, lots)",
    ),
    "fetchunseen.books.library": (
        "library_of(prime, books, length, row)", "unit(prime, books, length, book, place)",
        "part(prime, books, length, row, book)", "without(prime, books, length, row, book)",
        "exchanged_row(prime, books, row, order)", "joined_rows(prime, books, one, other)",
    ),
    "fetchunseen.scheme.schemes": (
        "scheme_fault(prime, houses, books, length, is_mixed, wishes)", "sums_of(scheme, wish, coin)",
        "lot_sums(scheme, wish, coin, lot)", "mean(scheme, wish)", "exchanged_houses(scheme, order)",
        "exchanged_books(scheme, order)", "together(one, other)", "open_scheme(prime, houses, books, length, house)",
        "all_scheme(prime, houses, books, length, house)",
    ),
    "fetchunseen.scheme.right": (
        "right_answer(scheme)", "is_right_answer(scheme, value)", "is_right(scheme)", "wrong_coins(scheme)",
        "read(scheme, wish, coin, answers)", "wrong_pair(scheme, wish, coin)",
        "is_wrong_pair(scheme, wish, coin, value)",
    ),
    "fetchunseen.scheme.sight": (
        "sight(scheme, wish, coin, lot)", "shares(scheme, wish, lot)", "seen_answer(scheme, lots)",
        "is_seen_answer(scheme, lots, value)", "is_unseen(scheme, lots)", "greatest_unseen(scheme)",
    ),
    "fetchunseen.scheme.tables": (
        "table_count(prime, width)", "table_at(prime, width, number)", "number_of(prime, table)",
        "alike_answer(prime, width, one, other)", "is_alike_answer(prime, width, one, other, value)",
        "leading_count(prime, width, one, other)",
    ),
    "fetchunseen.scheme.runs": (
        "draws(scheme, wish)", "coin_at(scheme, wish, draw)", "asked_by(scheme, wish, draw)",
        "answers_to(library, asks)", "fetched(scheme, wish, draw, answers)", "views(scheme, wish, lot)",
    ),
    "fetchunseen.bound.least": (
        "scale(houses, lots)", "least_mean(houses, lots, books, length)", "least_rate(houses, lots, books)",
        "least_shown(houses, lots, length)", "gap(houses, lots, books, length)",
        "books_within(houses, lots, length, goal)",
    ),
    "fetchunseen.bound.chain": (
        "mean_rank(scheme, wish, lot, gone)", "chain_of(scheme, lots, wish)", "is_chain(scheme, lots, wish, value)",
        "verdict(scheme, lots)", "is_verdict(scheme, lots, value)",
    ),
    "fetchunseen.make.codes": (
        "power_rows(prime, many, width)", "word_at(prime, letters, many)", "letters_by(prime, width, places, values)",
        "is_word(prime, width, value)", "are_apart(prime, rows, most)", "unlike_places(prime, one, other)",
    ),
    "fetchunseen.make.lone": (
        "keys(houses, books)", "asked_numbers(houses, books, wish, key, house)",
        "key_of(houses, books, wish, house, numbers)", "lone_scheme(prime, houses, books)", "lone_mean(houses, books)",
        "lone_read(prime, houses, books, key, answers)", "lone_wish(houses, books, one, other, here, there)",
    ),
    "fetchunseen.make.sums": (
        "sum_counts(many, most, books)", "sums_length(many, books)", "sums_mean(many, most, books)",
        "sums_scheme(prime, many, most, books)", "is_sums_scheme(prime, many, most, books, value)",
    ),
    "fetchunseen.make.lots": (
        "joined_houses(scheme, parts)", "lots_scheme(prime, houses, lots, books)", "is_least(scheme, lots)",
        "least_answer(prime, houses, lots, books)", "is_least_answer(prime, houses, lots, books, value)",
    ),
    "fetchunseen.shade.shaded": (
        "shaded_fault(prime, houses, books, length, drawn, shared, wishes)", "sent_at(scheme, wish, drawn)",
        "run_at(scheme, wish, drawn, shared, library)", "is_right_shaded(scheme)", "is_unseen_shaded(scheme, lots)",
        "shows_other(scheme)", "shaded_scheme(prime, houses, lots, books)",
    ),
    "fetchunseen.judge.claims": ("is_claim(value)", "opposite(claim)", "takes(claim, paper)", "settled(claim)"),
    "fetchunseen.text.texts": (
        "library_text(library)", "lots_text(houses, lots)", "scheme_text(scheme)", "read_library(text)",
        "read_lots(text)", "read_scheme(text)",
    ),
}
CLASSES = {
    "fetchunseen.books.library": {
        "Library(prime, books)": (
            "told(self, row)", "with_letter(self, book, place, letter)", "exchanged(self, order)", "less(self, other)",
            "__eq__(self, value)", "__str__(self)",
        ),
    },
    "fetchunseen.scheme.schemes": {
        "Scheme(prime, houses, books, length, is_mixed, wishes)": ("__eq__(self, value)", "__str__(self)"),
    },
    "fetchunseen.shade.shaded": {
        "Shaded(prime, houses, books, length, drawn, shared, wishes)": ("__eq__(self, value)",),
    },
    "fetchunseen.house.desk": {
        "Desk(prime, houses, books, length)": (
            "put_letter(self, book, place, letter)", "put_lot(self, lot)", "take_lot(self, lot)",
            "set_scheme(self, scheme)", "fetch(self, wish, draw)", "costs(self, wish)", "sent(self, house)",
            "account(self)", "undo(self, *, calls=1)", "twin(self)", "__eq__(self, value)", "__str__(self)",
        ),
    },
}
CONSTANTS = {
    "fetchunseen.base.fields": {"MOST_PRIME": 9973, "MOST_TIMES": 10 ** 9},
    "fetchunseen.base.rows": {"MOST_ROWS": 200, "MOST_WIDTH": 100},
    "fetchunseen.base.fractions": {"MOST_ADDED": 100},
    "fetchunseen.lots.lots": {"MOST_HOUSES": 6, "MOST_LOTS": 12},
    "fetchunseen.lots.weights": {"MOST_PARTS": 6},
    "fetchunseen.scheme.schemes": {"MOST_COINS": 64, "MOST_SUMS": 100, "MOST_ASKED": 400},
    "fetchunseen.scheme.runs": {"MOST_VIEWS": 2000},
    "fetchunseen.bound.least": {"MOST_BOOKS": 20},
    "fetchunseen.make.codes": {"MOST_PLACES": 100},
    "fetchunseen.shade.shaded": {"MOST_DRAWN": 40, "MOST_SHARED": 8, "MOST_SHADED": 24},
    "fetchunseen.text.texts": {"MOST_TEXT": 300000},
    "fetchunseen.house.desk": {"MOST_CALLS": 400},
}


class TestInterface(unittest.TestCase):
    def test_functions(self):
        for module_name, told in FUNCTIONS.items():
            module = importlib.import_module(module_name)
            for line in told:
                name = line.partition("(")[0]
                function = getattr(module, name)
                self.assertEqual(name + str(inspect.signature(function)), line)
                self.assertEqual((function.__module__, function.__name__), (module_name, name))

    def test_classes(self):
        for module_name, told in CLASSES.items():
            module = importlib.import_module(module_name)
            for line, methods in told.items():
                name = line.partition("(")[0]
                kind = getattr(module, name)
                self.assertEqual(name + str(inspect.signature(kind)), line)
                self.assertEqual((kind.__module__, kind.__name__), (module_name, name))
                for method in methods:
                    own = vars(kind)[method.partition("(")[0]]
                    self.assertEqual(method.partition("(")[0] + str(inspect.signature(own)), method)

    def test_constants(self):
        for module_name, told in CONSTANTS.items():
            module = importlib.import_module(module_name)
            for name, value in told.items():
                self.assertEqual(getattr(module, name), value)
                self.assertIs(type(getattr(module, name)), int)


if __name__ == "__main__":
    unittest.main()
