"""Stage 7: libraries."""

import itertools
import random
import unittest

from fetchunseen.books.library import Library, exchanged_row, joined_rows, library_of, part, unit, without
from fetchunseen.errors import InvalidLibrary
from tests.shapes import all_libraries, book_at
from tests.support import Errors, FAR, KINDS, LIBRARY, NUMBERS, OPERATION, PRIMES, ROW, all_rows, beyond, letters_beyond
from tests.support import no_order, no_rows_one, number, others_than, shown, told, too_many

# (prime, books, length), each with few libraries.
SMALL = [(2, 1, 1), (2, 1, 3), (2, 2, 1), (2, 2, 2), (2, 3, 1), (2, 4, 1), (3, 1, 2), (3, 2, 1), (3, 3, 1), (5, 1, 1), (5, 2, 1)]
GREAT = [(9973, 1, 100), (9973, 4, 25), (2, 4, 25), (9973, 3, 33), (9973, 2, 50), (9973, 1, 1), (9973, 4, 1)]
LIB, ASK = Library(5, ((1, 2, 3), (4, 0, 1))), (1, 0, 0, 1, 0, 2)
AS_PRIME = (number, PRIMES)
AS_BOOKS = (number, NUMBERS + [0, 5, 100])
AS_ROW = (ROW, no_rows_one(5))


def no_books(prime):
    """What is no books of a library."""
    return KINDS + FAR + [
        3, (), ((),), ((), ()), ((0,), ()), ((0,), (0, 1)), ((0, 1), (0,)), ((0,),) * 5, ((0,) * 101,), ((0,) * 51,) * 2,
        ((0,) * 34,) * 3, ((0,) * 26,) * 4, ((prime,),), ((-1,),), ((True,),), ((0,), (False,)), ((0, None),), ((0,), [0]),
        [(0,)], ([0],), (0, 1), ((0,), 0), (("0",),), ("0",), (((0,),),), ((10 ** 60,),), ((0, 10 ** 99),), ({0: 0},), {(0,): 0},
    ]


def some_library(generator, prime, books, length):
    return Library(prime, tuple([tuple([generator.randrange(prime) for _ in range(length)]) for _ in range(books)]))


def some_row(generator, prime, width):
    return tuple([generator.randrange(prime) for _ in range(width)])


class TestPlaces(Errors):
    """[7.1]"""

    def check_library(self, library, prime, books, length):
        row = tuple([letter for book in library.books for letter in book])
        held = [library.prime, library.many, library.length, library.row]
        self.assertEqual(shown(held), shown([prime, books, length, row]))
        again = library_of(prime, books, length, row)
        self.assertEqual(shown(again), shown(library))
        for book in range(books):
            self.assertEqual(part(prime, books, length, row, book), library.books[book])
            gone = without(prime, books, length, row, book)
            self.assertEqual(part(prime, books, length, gone, book), (0,) * length)
            for other in range(books):
                if other != book:
                    self.assertEqual(part(prime, books, length, gone, other), library.books[other])
        self.assertEqual(str(library), f"library of {books} books of {length} letters modulo {prime}")

    def test_small(self):
        for prime, books, length in SMALL:
            libraries = all_libraries(prime, books, length)
            self.assertEqual(len(libraries), prime ** (books * length))
            for library in libraries:
                self.check_library(library, prime, books, length)

    def test_great(self):
        generator = random.Random(70)
        for shape in GREAT:
            self.check_library(some_library(generator, *shape), *shape)

    def test_units(self):
        for prime, books, length in SMALL + GREAT:
            rows = [unit(prime, books, length, book, place) for book in range(books) for place in range(length)]
            wanted = [tuple([int(at == one) for at in range(books * length)]) for one in range(books * length)]
            self.assertEqual(rows, wanted)

    def test_with_letter(self):
        for prime, books, length in SMALL:
            for library in all_libraries(prime, books, length)[:20]:
                for book, place, letter in itertools.product(range(books), range(length), range(prime)):
                    row = list(library.row)
                    row[book * length + place] = letter
                    before = shown(library)
                    made = library.with_letter(book, place, letter)
                    self.assertEqual(shown(made), shown(library_of(prime, books, length, tuple(row))))
                    self.assertEqual(shown(library), before)
        great = some_library(random.Random(71), 9973, 4, 25)
        self.assertEqual(great.with_letter(3, 24, 9972).row[99], 9972)
        self.assertEqual(great.with_letter(3, 24, 9972).row[:99], great.row[:99])


class TestTold(Errors):
    """[7.2], [7.3]"""

    def test_told(self):
        for prime, books, length in SMALL:
            rows = all_rows(prime, books * length)
            for library in all_libraries(prime, books, length):
                for row in rows:
                    self.assertEqual(library.told(row), told(prime, row, library.row))
                self.check_sums(library, rows[::3])

    def check_sums(self, library, rows):
        for one, other in zip(rows, rows[1:]):
            both = tuple([(a + b) % library.prime for a, b in zip(one, other)])
            self.assertEqual(library.told(both), (library.told(one) + library.told(other)) % library.prime)

    def test_told_great(self):
        generator = random.Random(72)
        for prime, books, length in GREAT:
            library = some_library(generator, prime, books, length)
            rows = [some_row(generator, prime, books * length) for _ in range(10)]
            self.assertEqual([library.told(row) for row in rows], [told(prime, row, library.row) for row in rows])
            self.check_sums(library, rows)

    def test_differences(self):
        for prime, books, length in [shape for shape in SMALL if shape[0] ** (shape[1] * shape[2]) <= 27]:
            for one, other in itertools.product(all_libraries(prime, books, length), repeat=2):
                row = one.less(other)
                self.assertEqual(row, tuple([(a - b) % prime for a, b in zip(one.row, other.row)]))
                for ask in all_rows(prime, books * length):
                    self.assertEqual(one.told(ask) == other.told(ask), told(prime, ask, row) == 0)
                for book in range(books):
                    self.assertEqual(one.books[book] == other.books[book], not any(book_at(length, row, book)))
                self.assertIs(one == other, not any(row))

    def test_differences_great(self):
        generator = random.Random(73)
        for shape in GREAT:
            one, other = some_library(generator, *shape), some_library(generator, *shape)
            self.assertEqual(one.less(other), tuple([(a - b) % shape[0] for a, b in zip(one.row, other.row)]))
            self.assertEqual(one.less(one), (0,) * len(one.row))


class TestExchanged(Errors):
    """[7.4]"""

    def test_small(self):
        for prime, books, length in SMALL:
            for order in itertools.permutations(range(books)):
                for library in all_libraries(prime, books, length):
                    made = library.exchanged(order)
                    self.assertEqual([made.books[order[book]] for book in range(books)], list(library.books))
                    for row in all_rows(prime, books * length)[:40]:
                        self.check_row(prime, books, length, row, order)
                        self.assertEqual(made.told(exchanged_row(prime, books, row, order)), library.told(row))

    def check_row(self, prime, books, length, row, order):
        made = exchanged_row(prime, books, row, order)
        for book in range(books):
            self.assertEqual(book_at(length, made, order[book]), book_at(length, row, book))

    def test_great(self):
        generator = random.Random(74)
        for prime, books, length in GREAT:
            order = tuple(generator.sample(range(books), books))
            row = some_row(generator, prime, books * length)
            self.check_row(prime, books, length, row, order)
            library = some_library(generator, prime, books, length)
            self.assertEqual(library.exchanged(order).told(exchanged_row(prime, books, row, order)), library.told(row))


class TestJoined(Errors):
    """[7.5]"""

    def check_joined(self, prime, books, one, other):
        made = joined_rows(prime, books, one, other)
        lengths = [len(one) // books, len(other) // books]
        wanted = []
        for book in range(books):
            wanted.extend(book_at(lengths[0], one, book))
            wanted.extend(book_at(lengths[1], other, book))
        self.assertEqual(made, tuple(wanted))
        return made

    def test_small(self):
        for prime, books, lengths in ((2, 1, (1, 2)), (2, 2, (1, 1)), (2, 2, (2, 1)), (3, 2, (1, 1)), (2, 3, (1, 1))):
            libraries = [all_libraries(prime, books, length) for length in lengths]
            for one, other in itertools.product(*libraries):
                both = Library(prime, tuple([ahead + behind for ahead, behind in zip(one.books, other.books)]))
                self.assertEqual(self.check_joined(prime, books, one.row, other.row), both.row)
                for ask in all_rows(prime, books * lengths[0])[::3]:
                    for more in all_rows(prime, books * lengths[1])[::2]:
                        row = self.check_joined(prime, books, ask, more)
                        self.assertEqual(both.told(row), (one.told(ask) + other.told(more)) % prime)

    def test_great(self):
        generator = random.Random(75)
        for books, widths in ((1, (1, 99)), (1, (50, 50)), (2, (98, 2)), (3, (3, 96)), (4, (48, 52)), (4, (96, 4))):
            rows = [some_row(generator, 9973, width) for width in widths]
            self.check_joined(9973, books, *rows)


class TestObjects(Errors):
    """[0.2], and what `==` tells beside values of every kind."""

    def test_equal(self):
        for value in KINDS + FAR + [LIB.books, LIB.row, (5, LIB.books), Library(7, LIB.books), str(LIB)]:
            self.assertIs(LIB == value, False)
            self.assertIs(LIB != value, True)
            self.assertIs(value == LIB, False)
        again = Library(5, ((1, 2, 3), (4, 0, 1)))
        self.assertIs(LIB == again, True)
        self.assertIs(LIB != again, False)
        for other in (Library(5, ((1, 2, 3), (4, 0, 2))), Library(5, ((1, 2, 3),)), Library(5, ((1, 2, 3, 4, 0, 1),)),
                      Library(5, ((1, 2), (3, 4), (0, 1)))):
            self.assertIs(LIB == other, False)
            self.assertIs(LIB != other, True)

    def test_iterating(self):
        for act in (iter, list, tuple, lambda one: 1 in one, lambda one: [some for some in one], lambda one: (lambda *_: 1)(*one)):
            with self.assertRaises(TypeError):
                act(LIB)

    def test_kept(self):
        books = ((1, 2, 3), (4, 0, 1))
        self.assertEqual(shown(Library(5, books).books), shown(books))
        before = shown(LIB)
        LIB.told(ASK), LIB.exchanged((1, 0)), LIB.less(LIB), LIB.with_letter(0, 0, 4), str(LIB)
        self.assertEqual(shown(LIB), before)

    def test_equal_calls(self):
        self.check_twice(Library, [(5, LIB.books)])
        self.check_twice(LIB.told, [(ASK,)])
        self.check_twice(LIB.less, [(Library(5, ((0, 0, 4), (1, 1, 1))),)])
        self.check_twice(LIB.exchanged, [((1, 0),)])
        self.check_twice(LIB.with_letter, [(1, 2, 4)])
        self.check_twice(library_of, [(5, 2, 3, ASK)])
        self.check_twice(unit, [(5, 2, 3, 1, 0)])
        for function in (part, without):
            self.check_twice(function, [(5, 2, 3, ASK, 1)])
        self.check_twice(exchanged_row, [(5, 2, ASK, (1, 0))])
        self.check_twice(joined_rows, [(5, 2, ASK, (1, 2))])

    def test_not_true(self):
        """[7.6]"""
        one, other = Library(5, ((1,), (2,))), Library(5, ((1,), (3,)))
        self.assertEqual([one.told((letter, 0)) for letter in range(5)], [other.told((letter, 0)) for letter in range(5)])
        self.assertNotEqual(one, other)
        self.assertEqual(len(without(5, 2, 1, (1, 2), 0)), 2)


class TestRefused(Errors):
    def test_class(self):
        self.check_arguments(Library, (5, LIB.books), [AS_PRIME, (LIBRARY, no_books(5))])
        for prime in (2, 9973):
            self.check_error(Library, (prime, ((0, prime),)), LIBRARY(None))
        with self.assertRaises(InvalidLibrary) as caught:
            Library(5, ())
        self.assertIs(type(caught.exception), InvalidLibrary)

    def test_told(self):
        self.check_arguments(LIB.told, (ASK,), [AS_ROW])
        for row in ((1,), ASK[1:], ASK + (0,), (0,) * 100):
            self.check_error(LIB.told, (row,), OPERATION(None))

    def test_with_letter(self):
        wrong = [(number, beyond(2)), (number, beyond(3)), (number, letters_beyond(5))]
        self.check_arguments(LIB.with_letter, (1, 2, 4), wrong)

    def test_exchanged(self):
        self.check_arguments(LIB.exchanged, ((1, 0),), [(OPERATION, no_order(2))])

    def test_less(self):
        self.check_arguments(LIB.less, (LIB,), [(LIBRARY, others_than(Library))])
        for other in (Library(7, LIB.books), Library(5, ((1, 2, 3),)), Library(5, ((1, 2), (4, 0))),
                      Library(5, ((1, 2), (3, 4), (0, 1))), Library(5, ((0,) * 6,))):
            self.check_error(LIB.less, (other,), OPERATION(None))

    def test_library_of(self):
        length = (number, NUMBERS + [0, 51, 100, 101])
        self.check_arguments(library_of, (5, 2, 3, ASK), [AS_PRIME, AS_BOOKS, length, AS_ROW])
        for books, long in ((2, 51), (3, 34), (4, 26), (1, 101)):
            self.check_error(library_of, (5, books, long, ASK), number(long))
        for row in ((1,), ASK[1:], ASK + (0,), (0,) * 100):
            self.check_error(library_of, (5, 2, 3, row), OPERATION(None))
            self.check_error(library_of, (5, 5, 3, row), number(5))

    def test_unit(self):
        length = (number, NUMBERS + [0, 51, 100, 101])
        wrong = [AS_PRIME, AS_BOOKS, length, (number, beyond(2)), (number, beyond(3))]
        self.check_arguments(unit, (5, 2, 3, 1, 2), wrong)

    def test_part(self):
        length = (number, NUMBERS + [0, 51, 100, 101])
        wrong = [AS_PRIME, AS_BOOKS, length, AS_ROW, (number, beyond(2))]
        for function in (part, without):
            self.check_arguments(function, (5, 2, 3, ASK, 1), wrong)
            for row in ((1,), ASK[1:], ASK + (0,), (0,) * 100):
                self.check_error(function, (5, 2, 3, row, 1), OPERATION(None))
                # What follows "then" comes last, though it is about an earlier parameter.
                self.check_error(function, (5, 2, 3, row, 2), number(2))

    def test_exchanged_row(self):
        self.check_arguments(exchanged_row, (5, 2, ASK, (1, 0)), [AS_PRIME, AS_BOOKS, AS_ROW, (OPERATION, no_order(2))])
        for books, width in ((2, 1), (2, 99), (3, 100), (4, 98), (4, 3)):
            order = tuple(range(books))
            self.check_error(exchanged_row, (5, books, (0,) * width, order), OPERATION(None))

    def test_joined_rows(self):
        self.check_arguments(joined_rows, (5, 2, ASK, (1, 2)), [AS_PRIME, AS_BOOKS, AS_ROW, AS_ROW])
        for one, other in (((1,), (1, 2)), ((1, 2), (1, 2, 3)), ((1,), (1,)), ((0,) * 99, (0,) * 100), ((0,) * 100, (0,) * 99)):
            self.check_error(joined_rows, (5, 2, one, other), OPERATION(None))
        for books, widths in ((1, (1, 100)), (1, (51, 50)), (2, (100, 2)), (4, (52, 52)), (3, (99, 3))):
            self.check_error(joined_rows, (5, books) + tuple([(0,) * width for width in widths]), too_many(100))


if __name__ == "__main__":
    unittest.main()
