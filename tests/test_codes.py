"""Stage 15: words by powers."""

import itertools
import random
import unittest
from math import comb

from fetchunseen.make.codes import are_apart, is_word, letters_by, power_rows, unlike_places, word_at
from tests.shapes import rank_by_hand
from tests.support import Errors, FAR, KINDS, NUMBERS, OPERATION, PRIMES, ROW, ROWS, all_rows, beyond, made_of, no_rows, no_rows_one
from tests.support import number, paths, put, refused, some_rows, too_many

PRIME = (number, PRIMES)
COUNT = (number, beyond(101) + [0])
SMALL = (2, 3, 5, 7)


def value_at(prime, letters, point):
    """The value of the polynomial that has the letters as coefficients."""
    return sum([letter * point ** at for at, letter in enumerate(letters)]) % prime


def own_word(prime, letters, many):
    return tuple([value_at(prime, letters, at + 1) for at in range(many)])


def own_words(prime, width, many):
    return {own_word(prime, letters, many) for letters in all_rows(prime, width)}


def own_apart(prime, rows, most):
    return all([rank_by_hand(prime, chosen) == most for chosen in itertools.combinations(rows, most)])


class TestPowers(Errors):
    """[15.1]"""

    def test_rows(self):
        for prime in (2, 3, 5, 7, 11, 13, 101, 9973):
            for many, width in itertools.product(range(1, min(prime, 13)), (1, 2, 3, 5, 9, 14)):
                rows = power_rows(prime, many, width)
                self.assertEqual(rows, tuple([tuple([(at + 1) ** by % prime for by in range(width)]) for at in range(many)]))

    def test_apart(self):
        for prime in (2, 3, 5, 7, 11):
            for width in range(1, 13):
                rows = power_rows(prime, prime - 1, width)
                for most in range(1, prime):
                    apart = most <= width
                    self.assertIs(own_apart(prime, rows, most), apart)
                    self.assertIs(are_apart(prime, rows, most), apart)

    def test_great(self):
        for prime in (101, 9973):
            rows = self.check_within(2, power_rows, prime, 100, 100)
            self.assertEqual(rows[99], tuple([pow(100, by, prime) for by in range(100)]))
            self.assertEqual(rank_by_hand(prime, rows), 100)
            self.assertIs(self.check_within(5, are_apart, prime, rows, 100), True)
            self.assertIs(self.check_within(5, are_apart, prime, power_rows(prime, 100, 99), 99), True)
            self.assertIs(self.check_within(5, are_apart, prime, power_rows(prime, 100, 98), 99), False)

    def test_errors(self):
        self.check_arguments(power_rows, (7, 6, 2), [PRIME, COUNT, COUNT])
        for prime, many in ((2, 2), (3, 3), (7, 7), (7, 8), (97, 97), (97, 100), (5, 100)):
            self.check_error(power_rows, (prime, many, 3), refused("prime", many))
            self.check_error(power_rows, (prime, many, 0), number(0))
            self.check_error(power_rows, (prime, many, 101), number(101))
            self.check_error(power_rows, (prime + 9000000, many, 3), number(prime + 9000000))
            self.check_error(word_at, (prime, (1, 0), many), refused("prime", many))
            self.check_error(word_at, (prime, (1, prime), many), ROW(None))
        self.assertEqual(power_rows(2, 1, 3), ((1, 1, 1),))
        self.assertEqual(len(power_rows(101, 100, 1)), 100)


class TestWords(Errors):
    def test_values(self):
        """[15.2]"""
        for prime, width in itertools.product(SMALL, (1, 2, 3, 4)):
            if prime ** width > 700:
                continue
            for many in range(1, prime):
                units = [word_at(prime, tuple([int(at == by) for at in range(width)]), many) for by in range(width)]
                for letters in all_rows(prime, width):
                    word = word_at(prime, letters, many)
                    self.assertEqual(word, own_word(prime, letters, many))
                    self.assertEqual(word, made_of(prime, many, units, letters))

    def test_great(self):
        generator = random.Random(150)
        for width, many in ((100, 100), (1, 100), (100, 1), (50, 100), (99, 100)):
            letters = some_rows(generator, 9973, 1, width)[0]
            word = self.check_within(5, word_at, 9973, letters, many)
            self.assertEqual(word, tuple([sum([letter * pow(at + 1, by, 9973) for by, letter in enumerate(letters)]) % 9973 for at in range(many)]))
            self.assertIs(self.check_within(5, is_word, 9973, width, word), True)
            if many > width:
                bent = word[:-1] + ((word[-1] + 1) % 9973,)
                self.assertIs(self.check_within(5, is_word, 9973, width, bent), False)
            if width <= many:
                places = tuple(sorted(generator.sample(range(many), width)))
                values = tuple([word[place] for place in places])
                self.assertEqual(self.check_within(5, letters_by, 9973, width, places, values), letters)

    def test_errors(self):
        self.check_arguments(word_at, (7, (1, 2), 6), [PRIME, (ROW, no_rows_one(7)), COUNT])


class TestFew(Errors):
    """[15.3]"""

    def test_just_one(self):
        for prime, width in ((2, 1), (3, 1), (3, 2), (5, 1), (5, 2), (5, 3), (5, 4), (7, 1), (7, 2)):
            for places in itertools.combinations(range(prime - 1), width):
                found = {}
                for letters in all_rows(prime, width):
                    found.setdefault(tuple([value_at(prime, letters, place + 1) for place in places]), []).append(letters)
                for values in all_rows(prime, width):
                    self.assertEqual(len(found[values]), 1)
                    self.assertEqual(letters_by(prime, width, places, values), found[values][0])

    def test_one_fewer(self):
        """One value fewer leaves each value at each other place open."""
        for prime, width in ((3, 2), (5, 2), (5, 3), (5, 4), (7, 2), (7, 3)):
            for places in itertools.combinations(range(prime - 1), width):
                for values in all_rows(prime, width - 1):
                    for at in range(width):
                        words = {word_at(prime, letters_by(prime, width, places, values[:at] + (open_one,) + values[at:]), prime - 1)
                                 for open_one in range(prime)}
                        self.assertEqual(sorted([word[places[at]] for word in words]), list(range(prime)))
                        told = {tuple([word[place] for place in places[:at] + places[at + 1:]]) for word in words}
                        self.assertEqual(told, {values})

    def test_some(self):
        generator = random.Random(151)
        for _ in range(150):
            prime = generator.choice([11, 13, 101, 103, 9973])
            width = generator.randrange(1, min(prime - 1, 40))
            places = tuple(sorted(generator.sample(range(min(100, prime - 1)), width)))
            values = some_rows(generator, prime, 1, width)[0]
            letters = letters_by(prime, width, places, values)
            self.assertEqual(tuple([value_at(prime, letters, place + 1) for place in places]), values)
            self.assertEqual(len(letters), width)

    def test_errors(self):
        places = KINDS + FAR + [
            0, (), (0,), (0, 1, 2), (1, 0), (0, 0), (-1, 0), (0, 6), (0, 10), (0, True), (False, 1), [0, 1], (0, None), (0, "1"), ((0,), (1,)),
            (0, 10 ** 60), (0, 10 ** 99), {0: 1},
        ]
        self.check_arguments(letters_by, (7, 2, (0, 3), (1, 2)), [PRIME, COUNT, (OPERATION, places), (ROW, no_rows_one(7))])
        for values in ((1,), (1, 2, 3), (0,) * 100):
            self.check_error(letters_by, (7, 2, (0, 3), values), OPERATION(None))
        for wrong in ((0, 3), (3, 5, 6), (3, 4, 100)):
            self.check_error(letters_by, (7, 3, wrong, (1, 2, 7)), OPERATION(None))
        self.check_error(letters_by, (7, 3, (3, 4, 5), (1, 2, 7)), ROW(None))
        self.check_error(letters_by, (9973, 1, (100,), (1,)), OPERATION(None))
        self.assertEqual(letters_by(9973, 1, (99,), (1,)), (1,))
        self.check_error(letters_by, (101, 1, (100,), (1,)), OPERATION(None))
        self.assertEqual(letters_by(101, 1, (99,), (1,)), (1,))
        self.check_error(letters_by, (97, 1, (96,), (1,)), OPERATION(None))
        self.assertEqual(letters_by(97, 1, (95,), (1,)), (1,))
        self.assertEqual(letters_by(2, 1, (0,), (1,)), (1,))
        self.check_error(letters_by, (2, 1, (1,), (1,)), OPERATION(None))
        self.check_error(letters_by, (2, 2, (0, 1), (1, 1)), OPERATION(None))


class TestUnlike(Errors):
    """[15.4]"""

    def test_words(self):
        for prime, width in ((3, 1), (3, 2), (5, 1), (5, 2), (5, 3), (7, 1), (7, 2)):
            for many in range(width, prime):
                words = sorted(own_words(prime, width, many))
                self.assertEqual(len(words), prime ** width)
                counts = [len(unlike_places(prime, one, other)) for one, other in itertools.combinations(words, 2)]
                self.assertEqual(min(counts), many - width + 1)

    def test_places(self):
        for one, other in itertools.product(all_rows(3, 3), repeat=2):
            self.assertEqual(unlike_places(3, one, other), tuple([at for at in range(3) if one[at] != other[at]]))
        self.assertEqual(unlike_places(9973, tuple(range(100)), (0,) * 99 + (9972,)), tuple(range(1, 100)))
        self.assertEqual(unlike_places(2, (1,) * 100, (1,) * 100), ())

    def test_errors(self):
        row = (ROW, no_rows_one(7))
        self.check_arguments(unlike_places, (7, (1, 6), (1, 2)), [PRIME, row, row])
        for one, other in (((1,), (1, 2)), ((0,) * 100, (0,) * 99)):
            self.check_error(unlike_places, (7, one, other), OPERATION(None))
            self.check_error(unlike_places, (7, other, one), OPERATION(None))


class TestIsWord(Errors):
    """[15.5]"""

    def test_all(self):
        for prime, most in ((2, 3), (3, 4), (5, 5), (7, 3)):
            for width, many in itertools.product(range(1, 6), range(1, most + 1)):
                words = own_words(prime, width, many) if many < prime else set()
                for row in all_rows(prime, many):
                    self.assertIs(is_word(prime, width, row), row in words)
                    if many < prime and many <= width:
                        self.assertIn(row, words)

    def test_either_or(self):
        generator = random.Random(152)
        for _ in range(200):
            prime, width = generator.choice([7, 11, 101, 9973]), generator.randrange(1, 6)
            many = generator.randrange(width, min(prime, 20))
            row = word_at(prime, some_rows(generator, prime, 1, width)[0], many)
            for _ in range(generator.randrange(3)):
                at = generator.randrange(many)
                row = row[:at] + (generator.randrange(prime),) + row[at + 1:]
            again = word_at(prime, letters_by(prime, width, tuple(range(width)), row[:width]), many)
            self.assertIs(is_word(prime, width, row), again == row)

    def test_values_of_every_kind(self):
        good = (1, 6, 4, 2)
        self.check_accepts(is_word, (7, 2), KINDS + FAR + [
            (), good[:3] + (3,), list(good), [good], (good,), good[:3] + (True,), (True,) + good[1:], good[:3] + (9,), good[:3] + (-5,),
            good + (0, 5, 3), good[:3] + ("2",), good[:3] + (2 + 7 * 10 ** 59,), good[:3] + (10 ** 99,), {0: 1}, (1,) * 7, (0,) * 101, (0,) * 100,
        ])
        self.assertIs(is_word(7, 2, good), True)
        self.assertIs(is_word(7, 2, good + (0, 5)), True)
        self.assertIs(is_word(2, 3, (True,)), False)
        for path, value in itertools.product(paths(good), range(7)):
            self.assertIs(is_word(7, 2, put(good, path, value)), put(good, path, value) == good)

    def test_errors(self):
        self.check_arguments(is_word, (7, 2, None), [PRIME, COUNT, None])


class TestApart(Errors):
    def test_some(self):
        generator = random.Random(153)
        told = []
        for _ in range(300):
            prime, width = generator.choice([2, 3, 5, 9973]), generator.randrange(1, 6)
            rows = some_rows(generator, prime, generator.randrange(1, 8), width)
            if generator.randrange(3) == 0:
                at, by = generator.randrange(len(rows)), generator.randrange(1, prime)
                rows += (tuple([letter * by % prime for letter in rows[at]]),)
            for most in range(1, len(rows) + 1):
                told.append(own_apart(prime, rows, most))
                self.assertIs(are_apart(prime, rows, most), told[-1])
        self.assertGreater(min(told.count(True), told.count(False)), 100)

    def test_all(self):
        for many in (1, 2, 3):
            for rows in itertools.product(all_rows(2, 2), repeat=many):
                for most in range(1, many + 1):
                    self.assertIs(are_apart(2, rows, most), own_apart(2, rows, most))

    def test_great(self):
        rows = some_rows(random.Random(154), 9973, 200, 100)
        for many, most, apart in ((200, 1, True), (200, 200, False), (200, 199, False), (63, 2, True), (63, 61, True), (100, 100, True),
                                  (101, 100, True), (100, 99, True), (13, 5, True), (13, 6, True), (13, 7, True), (23, 3, True), (16, 12, True)):
            self.assertLessEqual(comb(many, most), 2000)
            self.assertIs(self.check_within(5, are_apart, 9973, rows[:many], most), apart)
        twice = rows[:62] + (tuple([letter * 5 % 9973 for letter in rows[30]]),)
        self.assertIs(self.check_within(5, are_apart, 9973, twice, 2), False)
        self.assertIs(self.check_within(5, are_apart, 9973, twice, 61), False)
        self.assertIs(self.check_within(5, are_apart, 9973, tuple([(row[0] + 1,) for row in rows if row[0] < 9972]), 1), True)

    def test_errors(self):
        rows = ((1, 2), (2, 3), (0, 1))
        self.check_arguments(are_apart, (7, rows, 2), [PRIME, (ROWS, no_rows(7)), (number, beyond(4) + [0])])
        for most in (0, 1, 2):
            self.check_error(are_apart, (7, (), most), number(most))
        for many, most in ((64, 2), (64, 62), (14, 5), (14, 9), (24, 3), (200, 100), (200, 198)):
            self.assertGreater(comb(many, most), 2000)
            self.check_error(are_apart, (7, ((1, 2),) * many, most), too_many(2000))
        self.check_error(are_apart, (7, ((1, 2),) * 200, 201), number(201))
        for most in NUMBERS[:5]:
            self.check_error(are_apart, (7, ((1, 2),) * 200, most), number(most))


class TestCalls(Errors):
    def test_equal_calls(self):
        self.check_twice(power_rows, [(7, 6, 3), (101, 100, 2)])
        self.check_twice(word_at, [(7, (3, 5), 4)])
        self.check_twice(letters_by, [(7, 2, (0, 3), (1, 2))])
        self.check_twice(is_word, [(7, 2, (1, 6, 4, 2)), (7, 2, [1, 6])])
        self.check_twice(are_apart, [(7, power_rows(7, 4, 2), 2), (7, power_rows(7, 4, 2), 3)])
        self.check_twice(unlike_places, [(7, (1, 6, 4, 2), (1, 2, 3, 4))])

    def test_not_true(self):
        """[15.6]"""
        rows = ((1, 0), (0, 1), (1, 1))
        self.assertEqual([are_apart(2, rows, 2), are_apart(2, rows, 3)], [True, False])
        self.assertIs(are_apart(5, power_rows(5, 2, 1), 2), False)
        words = (word_at(5, (1, 1), 2), word_at(5, (2, 0), 2))
        self.assertEqual([words[0][0], unlike_places(5, *words)], [words[1][0], (1,)])


if __name__ == "__main__":
    unittest.main()
