"""Stage 1: letters of a prime."""

import math
import random
import unittest

from fetchunseen.base import fields
from fetchunseen.base.fields import exponent_of, inverse, is_prime, letters_at, next_prime, number_at, power, root
from fetchunseen.errors import Refused
from tests.support import Errors, FAR, KINDS, NUMBERS, PRIMES, ROW, all_rows, letters_beyond, no_letters, number


def sieve(most):
    left = [True] * (most + 1)
    left[0] = left[1] = False
    for some in range(2, most + 1):
        for more in range(some * some, most + 1, some):
            left[more] = False
    return [some for some in range(most + 1) if left[some]]


ALL_PRIMES = sieve(9973)
SMALL = [2, 3, 5, 7, 11, 13, 17, 19, 23, 29, 31]
GREAT = [9973, 9967, 7919, 4999, 257]


class TestPrimes(Errors):
    def test_constants(self):
        self.assertEqual((fields.MOST_PRIME, fields.MOST_TIMES), (9973, 10 ** 9))

    def test_each_number(self):
        told = [some for some in range(-20, 10200) if is_prime(some)]
        self.assertEqual(told, ALL_PRIMES)
        self.assertIs(is_prime(9973), True)

    def test_accepts_every_value(self):
        self.check_accepts(is_prime, (), PRIMES + [(2,), [2], 2 ** 89 - 1, 10007, 9979])

    def test_next_prime(self):
        at = 0
        for some in range(9974):
            while ALL_PRIMES[at] < some:
                at += 1
            self.assertEqual(next_prime(some), ALL_PRIMES[at])

    def test_next_prime_errors(self):
        self.check_arguments(next_prime, (5,), [(number, NUMBERS + [9974, 9975, 10007])])


class TestInverses(Errors):
    """[1.1]"""

    def test_just_one(self):
        for prime in SMALL:
            for letter in range(1, prime):
                fits = [other for other in range(prime) if letter * other % prime == 1]
                self.assertEqual(fits, [inverse(prime, letter)])
                shares = sorted([letter * other % prime for other in range(prime)])
                self.assertEqual(shares, list(range(prime)))
                self.assertEqual(shares.count(0), 1)

    def test_great(self):
        for prime in GREAT:
            for letter in list(range(1, prime, 7)) + [prime - 1]:
                told = inverse(prime, letter)
                self.assertTrue(0 < told < prime)
                self.assertEqual(told * letter % prime, 1)

    def test_not_true(self):
        self.assertNotEqual((inverse(7, 1) + inverse(7, 1)) % 7, inverse(7, 2))
        self.assertEqual(power(7, 3, 2), power(7, 4, 2))

    def test_errors(self):
        self.check_arguments(inverse, (7, 3), [(number, PRIMES), (number, letters_beyond(7))])
        for prime in (2, 3, 9973):
            self.check_error(inverse, (prime, 0), (Refused, "reason", ("zero",)))
        self.check_error(inverse, (9, 0), number(9))
        self.check_error(inverse, (True, 0), number(True))
        self.check_error(inverse, (2, False), number(False))


class TestPowers(Errors):
    """[1.2]"""

    def test_multiplied(self):
        for prime in SMALL:
            for letter in range(prime):
                made = 1
                for times in range(2 * prime + 2):
                    self.assertEqual(power(prime, letter, times), made)
                    made = made * letter % prime

    def test_come_round(self):
        for prime in SMALL + GREAT:
            for letter in range(1, prime, 1 if prime < 99 else 911):
                self.assertEqual(power(prime, letter, prime - 1), 1)
                if prime < 99:
                    unlike = {power(prime, letter, times) for times in range(prime)}
                    self.assertEqual((prime - 1) % len(unlike), 0)

    def test_great_times(self):
        generator = random.Random(5)
        for prime in SMALL + GREAT:
            for times in (0, 1, 10 ** 9 - 1, 10 ** 9, generator.randrange(10 ** 9)):
                for letter in {0, 1, prime - 1, generator.randrange(prime)}:
                    self.assertEqual(power(prime, letter, times), pow(letter, times, prime) if times else 1)

    def test_roots(self):
        for prime in ALL_PRIMES[:60]:
            roots = []
            for letter in range(1, prime):
                if len({power(prime, letter, times) for times in range(prime - 1)}) == prime - 1:
                    roots.append(letter)
            self.assertEqual(root(prime), roots[0])
            others = [power(prime, roots[0], n) for n in range(1, prime) if math.gcd(n, prime - 1) == 1]
            self.assertEqual(sorted(others), roots)

    def test_each_prime_has_a_root(self):
        for prime in ALL_PRIMES[60::9] + [9973]:
            least, order = root(prime), []
            for letter in range(1, least + 1):
                made, many = letter, 1
                while made != 1:
                    made, many = made * letter % prime, many + 1
                order.append(many)
            self.assertEqual(order[-1], prime - 1)
            self.assertNotIn(prime - 1, order[:-1])

    def test_not_true(self):
        self.assertNotEqual(root(5), 4)
        self.assertLess(root(11), root(7))

    def test_exponents(self):
        for prime in SMALL:
            for base in range(prime):
                powers = [power(prime, base, times) for times in range(prime + 1)]
                for letter in range(prime):
                    least = powers.index(letter) if letter in powers else None
                    self.assertEqual(exponent_of(prime, base, letter), least)

    def test_exponents_great(self):
        for prime in (9973, 7919):
            base = root(prime)
            for letter in (1, 2, 77, prime - 1):
                self.assertEqual(power(prime, base, exponent_of(prime, base, letter)), letter)
            self.assertIs(exponent_of(prime, base, 0), None)
            self.assertEqual(exponent_of(prime, base, power(prime, base, prime - 2)), prime - 2)
            self.assertIs(exponent_of(prime, base * base % prime, base), None)

    def test_errors(self):
        times = NUMBERS + [10 ** 9 + 1, 10 ** 59]
        self.check_arguments(power, (7, 3, 2), [(number, PRIMES), (number, letters_beyond(7)), (number, times)])
        self.check_arguments(root, (7,), [(number, PRIMES)])
        beyond = (number, letters_beyond(7))
        self.check_arguments(exponent_of, (7, 3, 2), [(number, PRIMES), beyond, beyond])


class TestDigits(Errors):
    """[1.3]"""

    def test_one_to_one(self):
        for prime, most in ((2, 6), (3, 4), (5, 3), (7, 2), (31, 2)):
            for many in range(most + 1):
                ascending = all_rows(prime, many)
                self.assertEqual([letters_at(prime, many, at) for at in range(prime ** many)], ascending)
                self.assertEqual([number_at(prime, letters) for letters in ascending], list(range(prime ** many)))

    def test_by_powers(self):
        generator = random.Random(6)
        for prime in SMALL + GREAT:
            for many in (1, 2, 17, 99, 100):
                for some in (0, 1, prime ** many - 1, generator.randrange(prime ** many)):
                    letters = letters_at(prime, many, some)
                    self.assertIs(type(letters), tuple)
                    self.assertEqual(len(letters), many)
                    self.assertTrue(all(0 <= letter < prime for letter in letters))
                    worth = [letter * prime ** (many - 1 - at) for at, letter in enumerate(letters)]
                    self.assertEqual(sum(worth), some)
                    self.assertEqual(number_at(prime, letters), some)

    def test_empty(self):
        self.assertEqual([letters_at(2, 0, 0), number_at(9973, ())], [(), 0])

    def test_errors(self):
        many = (number, NUMBERS + [101, 10 ** 59])
        beyond = KINDS + [(), (3,), -1, -10 ** 60, 10 ** 99, 49, 50]
        self.check_arguments(letters_at, (7, 2, 48), [(number, PRIMES), many, (number, beyond)])
        self.check_arguments(number_at, (7, (1, 6)), [(number, PRIMES), (ROW, no_letters(7))])
        for prime in (2, 9973):
            for many in (0, 1, 100):
                self.check_error(letters_at, (prime, many, prime ** many), number(prime ** many))
        self.check_error(letters_at, (9973, 100, 10 ** 2000), number(10 ** 2000))
        self.check_error(letters_at, (9973, 100, -10 ** 390), number(-10 ** 390))
        self.check_error(letters_at, (2, 101, 5), number(101))

    def test_numbers_of_many_digits(self):
        self.assertEqual(number_at(9973, letters_at(9973, 100, 10 ** 399)), 10 ** 399)
        self.assertEqual(number_at(2, (1,) * 100), 2 ** 100 - 1)


class TestCalls(Errors):
    def test_equal_calls(self):
        self.check_twice(is_prime, [(7,), (8,), (None,)])
        self.check_twice(next_prime, [(0,), (9973,)])
        self.check_twice(inverse, [(7, 3), (2, 1)])
        self.check_twice(power, [(9973, 5, 10 ** 9)])
        self.check_twice(letters_at, [(9973, 100, 10 ** 300)])
        self.check_twice(number_at, [(5, (1, 2, 3))])
        self.check_twice(root, [(9973,), (2,)])
        self.check_twice(exponent_of, [(9973, 11, 7), (7, 2, 3)])

    def test_far_numbers_are_far(self):
        self.assertEqual([len(str(abs(some))) for some in FAR], [1, 61, 61, 100, 100, 100])


if __name__ == "__main__":
    unittest.main()
