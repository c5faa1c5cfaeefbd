"""Stage 16: the scheme for lone houses."""

import itertools
import random
import unittest
from fractions import Fraction

from fetchunseen.books.library import Library
from fetchunseen.bound.least import least_mean
from fetchunseen.lots.lots import lone_lots
from fetchunseen.make.lone import asked_numbers, key_of, keys, lone_mean, lone_read, lone_scheme, lone_wish
from fetchunseen.scheme.right import is_right, read
from fetchunseen.scheme.runs import answers_to
from fetchunseen.scheme.schemes import Scheme, mean
from fetchunseen.scheme.sight import greatest_unseen, is_unseen, shares
from tests.shapes import all_libraries, is_wrong_by_trying, own_mean, own_sums, pair, rank_by_hand
from tests.support import ANSWERS, Errors, FAR, KINDS, NUMBERS, OPERATION, PRIMES, all_rows, beyond, no_letters, number, some_rows, too_many
from tests.test_chain import lone_scheme as by_hand

PRIME = (number, PRIMES)
HOUSES = (number, beyond(7) + [0, 1])
BOOKS = (number, beyond(5) + [0])
SHAPES = list(itertools.product(range(2, 7), range(1, 5)))
# Those whose scheme is within all bounds.
MADE = [shape for shape in SHAPES if shape not in ((4, 4), (5, 4), (6, 4), (6, 3))]


def all_keys(houses, books):
    return list(itertools.product(range(houses), repeat=books - 1))


def own_numbers(houses, wish, key, house):
    """Each book's number: the key's for the others, ascending, and what is left for the wished one."""
    left = list(key)
    numbers = []
    for book in range(len(key) + 1):
        numbers.append((house - sum(key)) % houses if book == wish else left.pop(0))
    return tuple(numbers)


def own_asked(houses, numbers):
    """The sums of a house: one with a 1 for each number but 0, or none."""
    row = [0] * (len(numbers) * (houses - 1))
    for book, told in enumerate(numbers):
        if told > 0:
            row[book * (houses - 1) + told - 1] = 1
    return (tuple(row),) if any(row) else ()


def no_numbers(houses, many):
    good = (0,) * many
    return KINDS + FAR + [
        0, good + (0,), good[:-1] + (houses,), good[:-1] + (-1,), good[:-1] + (True,), (False,) + good[1:], list(good), good[:-1] + (None,),
        good[:-1] + ("0",), ((0,),) * many, good[:-1] + (10 ** 60,), good[:-1] + (10 ** 99,), {0: 0},
    ] + ([()] if many else []) + ([(0,)] if many > 1 else [])


class TestAsked(Errors):
    """[16.1]"""

    def test_keys(self):
        for houses, books in SHAPES:
            if houses ** (books - 1) <= 64:
                self.assertEqual(keys(houses, books), tuple(all_keys(houses, books)))
                self.assertEqual(list(keys(houses, books)), sorted(keys(houses, books)))
            else:
                self.check_error(keys, (houses, books), too_many(64))
                self.check_error(lone_scheme, (2, houses, books), too_many(64))

    def test_numbers(self):
        for houses, books in SHAPES:
            for wish, key, house in itertools.product(range(books), all_keys(houses, books), range(houses)):
                told = asked_numbers(houses, books, wish, key, house)
                self.assertEqual(told, own_numbers(houses, wish, key, house))
                self.assertEqual(sum(told) % houses, house)

    def test_scheme(self):
        for (houses, books), prime in itertools.product(MADE, (2, 3, 9973)):
            scheme = self.check_within(3, lone_scheme, prime, houses, books)
            self.assertEqual((scheme.prime, scheme.houses, scheme.books, scheme.length, scheme.is_mixed), (prime, houses, books, houses - 1, False))
            for wish in range(books):
                coins = [(1, tuple([own_asked(houses, own_numbers(houses, wish, key, house)) for house in range(houses)]))
                         for key in all_keys(houses, books)]
                self.assertEqual(scheme.wishes[wish], tuple(coins))
            self.assertEqual(scheme, by_hand(prime, houses, books))

    def test_bounds(self):
        for houses, books in ((4, 4), (6, 3)):
            self.check_error(lone_scheme, (7, houses, books), too_many(400))
        self.assertEqual(sum([len(own_sums(lone_scheme(2, 5, 3), wish, coin)) for wish in range(3) for coin in range(25)]), 372)


class TestRead(Errors):
    """[16.2]"""

    def test_all_libraries(self):
        for prime, houses, books in ((2, 2, 1), (2, 2, 2), (3, 2, 2), (2, 3, 2), (2, 2, 3), (3, 3, 1), (3, 2, 3), (2, 2, 4)):
            scheme = lone_scheme(prime, houses, books)
            for library in all_libraries(prime, books, houses - 1):
                self.check_library(scheme, library)

    def test_some_libraries(self):
        generator = random.Random(160)
        for houses, books in MADE:
            prime = generator.choice([2, 5, 97, 9973])
            library = Library(prime, some_rows(generator, prime, books, houses - 1))
            self.check_library(lone_scheme(prime, houses, books), library)

    def check_library(self, scheme, library):
        for wish, (at, key) in itertools.product(range(scheme.books), list(enumerate(all_keys(scheme.houses, scheme.books)))):
            asks = scheme.wishes[wish][at][1]
            told = [answers_to(library, (sums,)) for sums in asks]
            answers = tuple([answer[0] if answer else 0 for answer in told])
            self.assertEqual(lone_read(scheme.prime, scheme.houses, scheme.books, key, answers), library.books[wish])
            self.assertEqual(read(scheme, wish, at, answers_to(library, asks)), library.books[wish])

    def test_all_answers(self):
        """Each answers are some library's, if house 0 tells 0 where it is asked for nothing."""
        for prime, houses, books in ((2, 3, 2), (3, 3, 2), (2, 4, 2), (3, 2, 3), (2, 3, 1), (5, 2, 1)):
            for key in all_keys(houses, books):
                for answers in all_rows(prime, houses):
                    if any(key) or answers[0] == 0:
                        base = answers[sum(key) % houses]
                        book = tuple([(answers[(sum(key) + at) % houses] - base) % prime for at in range(1, houses)])
                        self.assertEqual(lone_read(prime, houses, books, key, answers), book)
                    else:
                        self.check_error(lone_read, (prime, houses, books, key, answers), ANSWERS(None))

    def test_errors(self):
        wrong = [PRIME, HOUSES, BOOKS, (OPERATION, no_numbers(3, 2)), (ANSWERS, no_letters(5) + [(), (0, 1), (0, 1, 2, 3), (5, 0, 0)])]
        self.check_arguments(lone_read, (5, 3, 3, (2, 1), (4, 1, 3)), wrong)
        self.check_error(lone_read, (5, 3, 1, (), (1, 1, 1)), ANSWERS(None))
        self.check_error(lone_read, (5, 3, 1, (0,), (1, 1, 1)), OPERATION(None))
        self.assertEqual(lone_read(5, 3, 1, (), (0, 1, 2)), (1, 2))
        self.assertEqual(lone_read(5, 3, 2, (0,), (0, 1, 2)), (1, 2))


class TestUnseen(Errors):
    def test_one_key(self):
        """[16.3]"""
        for houses, books in SHAPES:
            if houses ** books > 700:
                continue
            for wish, house in itertools.product(range(books), range(houses)):
                asked = {}
                for key in all_keys(houses, books):
                    asked.setdefault(own_numbers(houses, wish, key, house), []).append(key)
                for numbers in itertools.product(range(houses), repeat=books):
                    if sum(numbers) % houses == house:
                        self.assertEqual([key_of(houses, books, wish, house, numbers)], asked[numbers])
                    else:
                        self.assertNotIn(numbers, asked)
                        self.assertIsNone(key_of(houses, books, wish, house, numbers))

    def test_schemes(self):
        """[16.3], [16.5]"""
        for houses, books in MADE:
            prime = 2 + (houses + books) % 2
            scheme = lone_scheme(prime, houses, books)
            self.assertIs(is_right(scheme), True)
            self.assertIs(is_unseen(scheme, lone_lots(houses)), True)
            for lot in itertools.combinations(range(houses), 2):
                self.assertIs(is_unseen(scheme, (lot,)), books == 1)
            if books > 1:
                self.assertEqual(greatest_unseen(scheme), lone_lots(houses))
            for house in range(houses):
                seen = [sorted([own_asked(houses, own_numbers(houses, wish, key, house)) for key in all_keys(houses, books)])
                        for wish in range(books)]
                self.assertEqual(seen, [seen[0]] * books)
                self.assertEqual(len(set(seen[0])), houses ** (books - 1))
                self.assertEqual(len({shares(scheme, wish, (house,)) for wish in range(books)}), 1)

    def test_right_by_trying(self):
        for prime, houses, books in ((2, 2, 2), (2, 3, 2), (3, 2, 2), (2, 2, 3), (3, 3, 2), (2, 2, 4), (2, 4, 2)):
            scheme = lone_scheme(prime, houses, books)
            for wish, coin in itertools.product(range(books), range(houses ** (books - 1))):
                self.assertIs(is_wrong_by_trying(scheme, wish, coin), False)
        for houses, books in MADE:
            scheme = lone_scheme(5, houses, books)
            length = houses - 1
            for wish, coin in itertools.product(range(books), range(0, houses ** (books - 1), 5)):
                sums = own_sums(scheme, wish, coin)
                left = [row[:wish * length] + row[(wish + 1) * length:] for row in sums]
                self.assertEqual(rank_by_hand(5, sums), length + rank_by_hand(5, left))

    def test_errors(self):
        self.check_arguments(keys, (3, 2), [HOUSES, BOOKS])
        wish, house = (number, beyond(3)), (number, beyond(3))
        self.check_arguments(asked_numbers, (3, 3, 1, (2, 1), 0), [HOUSES, BOOKS, wish, (OPERATION, no_numbers(3, 2)), house])
        self.check_arguments(key_of, (3, 3, 1, 0, (2, 0, 1)), [HOUSES, BOOKS, wish, house, (OPERATION, no_numbers(3, 3))])
        self.check_arguments(lone_scheme, (5, 3, 3), [PRIME, HOUSES, BOOKS])
        self.check_error(asked_numbers, (3, 1, 0, (0,), 0), OPERATION(None))
        self.assertEqual(asked_numbers(3, 1, 0, (), 2), (2,))
        self.assertEqual(key_of(6, 4, 3, 5, (5, 5, 5, 2)), (5, 5, 5))
        self.check_error(lone_scheme, (4, 6, 4), number(4))


class TestMean(Errors):
    """[16.4]"""

    def test_means(self):
        for houses, books in SHAPES:
            wanted = Fraction(houses) - Fraction(1, houses ** (books - 1))
            self.assertEqual(lone_mean(houses, books), pair(wanted))
            self.assertEqual(wanted, (houses - 1) * sum([Fraction(1, houses ** at) for at in range(books)]))
            self.assertEqual(lone_mean(houses, books), least_mean(houses, lone_lots(houses), books, houses - 1))
        for houses, books in MADE:
            scheme = lone_scheme(3, houses, books)
            for wish in range(books):
                self.assertEqual(pair(own_mean(scheme, wish)), lone_mean(houses, books))
                self.assertEqual(mean(scheme, wish), lone_mean(houses, books))
                counts = [len(own_sums(scheme, wish, coin)) for coin in range(houses ** (books - 1))]
                self.assertEqual(counts, [houses - 1] + [houses] * (len(counts) - 1))

    def test_errors(self):
        self.check_arguments(lone_mean, (3, 3), [HOUSES, BOOKS])


class TestTwo(Errors):
    """[16.5]"""

    def test_all(self):
        for houses, books in SHAPES:
            if books == 1 or houses ** books > 100:
                continue
            for one, other in itertools.permutations(range(houses), 2):
                seen = {}
                for wish, key in itertools.product(range(books), all_keys(houses, books)):
                    seen.setdefault((own_numbers(houses, wish, key, one), own_numbers(houses, wish, key, other)), set()).add(wish)
                for here, there in itertools.product(itertools.product(range(houses), repeat=books), repeat=2):
                    wishes = seen.get((here, there), {None})
                    self.assertEqual({lone_wish(houses, books, one, other, here, there)}, wishes)

    def test_great(self):
        for wish, key in itertools.product(range(4), all_keys(6, 4)[::5]):
            for one, other in itertools.permutations(range(6), 2):
                here, there = own_numbers(6, wish, key, one), own_numbers(6, wish, key, other)
                self.assertEqual(lone_wish(6, 4, one, other, here, there), wish)

    def test_errors(self):
        numbers = (OPERATION, no_numbers(3, 3))
        house = (number, beyond(3))
        self.check_arguments(lone_wish, (3, 3, 0, 1, (2, 0, 1), (2, 1, 1)), [HOUSES, BOOKS, house, house, numbers, numbers])
        self.check_error(lone_wish, (3, 3, 1, 1, (2, 0, 2), (2, 0, 2)), OPERATION(None))
        self.check_error(lone_wish, (3, 1, 0, 1, (0,), (1,)), OPERATION(None))
        self.check_error(lone_wish, (3, 1, 0, 3, (0,), (1,)), number(3))
        self.check_error(lone_wish, (3, 3, 3, 3, (0,), (1,)), number(3))
        for value in NUMBERS[:6]:
            self.check_error(lone_wish, (3, 1, value, value, None, None), number(value))


class TestCalls(Errors):
    def test_equal_calls(self):
        self.check_twice(keys, [(3, 3), (6, 2)])
        self.check_twice(asked_numbers, [(3, 3, 1, (2, 1), 0)])
        self.check_twice(key_of, [(3, 3, 1, 0, (2, 0, 1)), (3, 3, 1, 1, (2, 0, 1))])
        self.check_twice(lone_scheme, [(5, 3, 3), (2, 5, 3)])
        self.check_twice(lone_mean, [(6, 4)])
        self.check_twice(lone_read, [(5, 3, 3, (2, 1), (4, 1, 3))])
        self.check_twice(lone_wish, [(3, 3, 0, 1, (2, 0, 1), (2, 1, 1))])

    def test_not_true(self):
        """[16.6]"""
        scheme = lone_scheme(2, 3, 2)
        self.assertEqual([len(own_sums(scheme, 0, coin)) for coin in range(3)], [2, 3, 3])
        self.assertEqual([any([coin[1][house] == () for coin in scheme.wishes[0]]) for house in range(3)], [True, False, False])
        self.assertIsInstance(lone_scheme(2, 5, 3), Scheme)


if __name__ == "__main__":
    unittest.main()
