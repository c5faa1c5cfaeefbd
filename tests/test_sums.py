"""Stage 17: sums of one, two and more books."""

import itertools
import random
import unittest
from fractions import Fraction
from math import comb

from fetchunseen.base.fields import next_prime
from fetchunseen.base.rows import relations
from fetchunseen.bound.least import least_mean
from fetchunseen.lots.lots import all_lots, lone_lots
from fetchunseen.make.lone import lone_scheme
from fetchunseen.make.sums import is_sums_scheme, sum_counts, sums_length, sums_mean, sums_scheme
from fetchunseen.scheme.right import is_right
from fetchunseen.scheme.schemes import Scheme, all_scheme, exchanged_books, exchanged_houses, mean, open_scheme
from fetchunseen.scheme.sight import is_unseen, seen_answer
from tests.shapes import bent, book_at, is_wrong_by_trying, own_mean, own_sums, pair, rank_by_hand, six
from tests.support import Errors, FAR, KINDS, PRIMES, all_rows, beyond, made_of, number, paths, put, refused, too_many
from tests.test_chain import sums_of_two

PRIME = (number, PRIMES)
MANY = (number, beyond(7) + [0])
BOOKS = (number, beyond(5) + [0])
SHAPES = [(many, most, books) for many in range(1, 7) for most in range(1, many + 1) for books in range(1, 5)]
MADE = [shape for shape in SHAPES if shape[2] * shape[0] ** shape[2] <= 100]


def least_prime(many, books):
    return next_prime(many ** books + 1)


def made(many, most, books):
    return sums_scheme(least_prime(many, books), many, most, books)


def parts_seen(scheme, wish, lot, book):
    """The parts of the lot's sums at the book, in their sequence."""
    return [book_at(scheme.length, row, book) for row in own_sums(scheme, wish, 0, lot)]


def books_of(scheme, row):
    """Of which books the sum has letters."""
    return tuple([book for book in range(scheme.books) if any(book_at(scheme.length, row, book))])


def is_right_by_ranks(scheme, wish):
    """[9.3], by the test's own ranks."""
    sums = own_sums(scheme, wish, 0)
    length = scheme.length
    left = [row[:wish * length] + row[(wish + 1) * length:] for row in sums]
    return rank_by_hand(scheme.prime, sums) == length + rank_by_hand(scheme.prime, left)


def are_relations_alike(scheme, lot, one, other):
    """Whether the lot is asked equally many sums, with equal relations in each book, for both wishes."""
    for house in lot:
        if len(own_sums(scheme, one, 0, (house,))) != len(own_sums(scheme, other, 0, (house,))):
            return False
    for book in range(scheme.books):
        rows, others = parts_seen(scheme, one, lot, book), parts_seen(scheme, other, lot, book)
        if not rows:
            continue
        # Rows have the same relations just if the rank of both beside one another is that of each.
        ranks = {rank_by_hand(scheme.prime, some) for some in (rows, others, [row + more for row, more in zip(rows, others)])}
        if len(ranks) != 1:
            return False
    return True


class TestCounts(Errors):
    """[17.1]"""

    def test_counts(self):
        for many, most, books in SHAPES:
            counts = [(many - most) ** (k - 1) * most ** (books - k) for k in range(1, books + 1)]
            self.assertEqual(sum_counts(many, most, books), tuple(counts))
            self.assertEqual(sums_length(many, books), many ** books)
            all_sums = many * sum([comb(books, k) * counts[k - 1] for k in range(1, books + 1)])
            self.assertEqual(sums_mean(many, most, books), (all_sums, 1))
            wished = many * sum([comb(books - 1, k - 1) * counts[k - 1] for k in range(1, books + 1)])
            self.assertEqual(wished, many ** books)
            told = many ** books * sum([Fraction(most, many) ** at for at in range(books)])
            self.assertEqual(sums_mean(many, most, books), pair(told))
            if many ** books <= 100 and comb(many, most) <= 12:
                self.assertEqual(sums_mean(many, most, books), least_mean(many, all_lots(many, most), books, many ** books))

    def test_errors(self):
        most = (number, beyond(4) + [0])
        self.check_arguments(sum_counts, (3, 2, 2), [MANY, most, BOOKS])
        self.check_arguments(sums_mean, (3, 2, 2), [MANY, most, BOOKS])
        self.check_arguments(sums_length, (3, 2), [MANY, BOOKS])
        for function in (sum_counts, sums_mean):
            self.check_error(function, (7, 8, 5), number(7))
            self.check_error(function, (2, 3, 5), number(3))


class TestMade(Errors):
    def test_form(self):
        """[17.1]"""
        for many, most, books in MADE:
            scheme = made(many, most, books)
            self.assertEqual(six(scheme)[:5], (least_prime(many, books), many, books, many ** books, True))
            counts = sum_counts(many, most, books)
            for wish in range(books):
                self.assertEqual(len(scheme.wishes[wish]), 1)
                self.assertEqual(pair(own_mean(scheme, wish)), sums_mean(many, most, books))
                for house in range(many):
                    told = [books_of(scheme, row) for row in own_sums(scheme, wish, 0, (house,))]
                    for lot in [lot for size in range(1, books + 1) for lot in itertools.combinations(range(books), size)]:
                        self.assertEqual(told.count(lot), counts[len(lot) - 1])

    def test_parts(self):
        """[17.2]: what of the parts can be told of each such scheme of ours."""
        for many, most, books in MADE:
            scheme = made(many, most, books)
            for wish in range(books):
                sums = own_sums(scheme, wish, 0)
                wished = [book_at(scheme.length, row, wish) for row in sums if wish in books_of(scheme, row)]
                self.assertEqual(len(wished), many ** books)
                self.assertEqual(rank_by_hand(scheme.prime, wished), many ** books)
                for size in range(1, books):
                    x = (many - most) ** (size - 1) * most ** (books - size - 1)
                    for lot in itertools.combinations([book for book in range(books) if book != wish], size):
                        rows = [row for row in sums if set(books_of(scheme, row)) - {wish} == set(lot)]
                        self.assertEqual(len(rows), many * many * x)
                        for book in lot:
                            parts = [book_at(scheme.length, row, book) for row in rows]
                            self.assertEqual(rank_by_hand(scheme.prime, parts), many * most * x)
                            if comb(len(parts), many * most * x) <= 130:
                                for some in itertools.combinations(parts, many * most * x):
                                    self.assertEqual(rank_by_hand(scheme.prime, some), many * most * x)

    def test_right(self):
        """[17.3]"""
        for many, most, books in MADE:
            scheme = made(many, most, books)
            self.assertIs(is_right(scheme), True)
            for wish in range(books):
                self.assertIs(is_right_by_ranks(scheme, wish), True)
                if scheme.prime ** scheme.width <= 300:
                    self.assertIs(is_wrong_by_trying(scheme, wish, 0), False)

    def test_unseen(self):
        """[17.4]"""
        for many, most, books in MADE:
            scheme = made(many, most, books)
            for lot in itertools.combinations(range(many), most):
                self.assertIs(is_unseen(scheme, (lot,)), True)
                for wish, book in itertools.product(range(books), repeat=2):
                    told = [part for part in parts_seen(scheme, wish, lot, book) if any(part)]
                    self.assertEqual(len(told), most * many ** (books - 1))
                    self.assertEqual(rank_by_hand(scheme.prime, told), len(told))
                for one, other in itertools.combinations(range(books), 2):
                    self.assertIs(are_relations_alike(scheme, lot, one, other), True)
            for lot in itertools.combinations(range(many), min(many, most + 1)):
                seen = most < many and books > 1
                self.assertIs(is_unseen(scheme, (lot,)), not seen)
                if seen:
                    self.assertIs(are_relations_alike(scheme, lot, 0, 1), False)

    def test_sequence(self):
        """Each house is asked for lots of books in one sequence, whichever is the wish."""
        for many, most, books in MADE:
            scheme = made(many, most, books)
            for house in range(many):
                told = [[books_of(scheme, row) for row in own_sums(scheme, wish, 0, (house,))] for wish in range(books)]
                self.assertEqual(told, [told[0]] * books)

    def test_relations(self):
        """The sights by our own relations, all of them, for small primes."""
        for many, most, books in ((2, 1, 2), (2, 2, 2), (1, 1, 3)):
            scheme = made(many, most, books)
            for lot in itertools.combinations(range(many), most):
                told = []
                for wish in range(books):
                    found = []
                    for book in range(books):
                        parts = parts_seen(scheme, wish, lot, book)
                        found.append([letters for letters in all_rows(scheme.prime, len(parts))
                                      if not any(made_of(scheme.prime, scheme.length, parts, letters))])
                        self.assertEqual(len(found[-1]), scheme.prime ** len(relations(scheme.prime, tuple(parts))))
                    told.append(found)
                self.assertEqual(told, [told[0]] * books)

    def test_great(self):
        """Greater primes, and the time that it takes."""
        for many, most, books in ((6, 3, 2), (6, 6, 2), (3, 2, 3), (2, 1, 4), (6, 5, 1)):
            for prime in (101, 9973):
                scheme = self.check_within(5, sums_scheme, prime, many, most, books)
                self.assertIs(self.check_within(10, is_sums_scheme, prime, many, most, books, scheme), True)
                self.assertIs(all([is_right_by_ranks(scheme, wish) for wish in range(books)]), True)

    def test_errors(self):
        good = (11, 3, 2, 2)
        wrong = [PRIME, MANY, (number, beyond(4) + [0]), BOOKS]
        self.check_arguments(sums_scheme, good, wrong)
        self.check_arguments(is_sums_scheme, good + (None,), wrong + [None])
        for many, most, books in SHAPES:
            length = many ** books
            for prime in (2, 3, 5, 37, 1297, 9973):
                before = (prime, many, most, books)
                if books * length > 100:
                    expected = too_many(100)
                elif prime <= length:
                    expected = refused("prime", length)
                else:
                    self.assertIs(is_sums_scheme(*before, None), False)
                    continue
                self.check_error(sums_scheme, before, expected)
                self.check_error(is_sums_scheme, before + (None,), expected)
        self.check_error(sums_scheme, (7, 3, 4, 2), number(4))


def own_judge(prime, many, most, books, value):
    """The document's words, by the test's own ranks and relations."""
    if not isinstance(value, Scheme) or value.is_mixed is not True:
        return False
    if (value.prime, value.houses, value.books, value.length) != (prime, many, books, many ** books):
        return False
    if any([len(coins) != 1 for coins in value.wishes]):
        return False
    if any([pair(own_mean(value, wish)) != sums_mean(many, most, books) for wish in range(books)]):
        return False
    if not all([is_right_by_ranks(value, wish) for wish in range(books)]):
        return False
    return all([are_relations_alike(value, lot, 0, wish) for lot in itertools.combinations(range(many), most) for wish in range(1, books)])


class TestJudge(Errors):
    def check_value(self, shape, value):
        told = is_sums_scheme(*shape, value)
        self.assertIs(told, own_judge(*shape, value))
        return told

    def test_other_schemes(self):
        """Correct ones that are not made here."""
        self.assertIs(self.check_value((5, 2, 1, 2), sums_of_two()), True)
        generator = random.Random(170)
        for many, most, books in MADE:
            prime = least_prime(many, books)
            shape, scheme = (prime, many, most, books), made(many, most, books)
            self.assertIs(self.check_value(shape, scheme), True)
            times = [((generator.choice([1, 2, 10 ** 9]), coins[0][1]),) for coins in scheme.wishes]
            self.assertIs(self.check_value(shape, Scheme(*bent(scheme, wishes=tuple(times)))), True)
            turned = [((1, tuple([asks[::-1] for asks in coins[0][1]])),) for coins in scheme.wishes]
            self.assertIs(self.check_value(shape, Scheme(*bent(scheme, wishes=tuple(turned)))), True)
            order = tuple(generator.sample(range(many), many))
            self.assertIs(self.check_value(shape, exchanged_houses(scheme, order)), True)
            order = tuple(generator.sample(range(books), books))
            self.assertIs(self.check_value(shape, exchanged_books(scheme, order)), True)
            by = generator.randrange(1, prime)
            scaled = [((1, tuple([tuple([tuple([letter * by % prime for letter in row]) for row in sums]) for sums in coins[0][1]])),)
                      for coins in scheme.wishes]
            self.assertIs(self.check_value(shape, Scheme(*bent(scheme, wishes=tuple(scaled)))), True)
            self.assertIs(self.check_value(shape, Scheme(*bent(scheme, is_mixed=False))), False)
            self.assertIs(self.check_value(shape, Scheme(*bent(scheme, prime=next_prime(prime + 1)))), False)

    def test_wrong_schemes(self):
        for many, most, books in MADE:
            prime, scheme = least_prime(many, books), made(many, most, books)
            for other in range(1, many + 1):
                self.assertIs(self.check_value((prime, many, other, books), scheme), other == most or books == 1)
            coin = scheme.wishes[0][0]
            asks = coin[1]
            changed = [
                (coin, coin), ((1, asks[:-1] + (asks[-1] + asks[-1][:1],)),), ((1, asks[:-1] + (asks[-1][:-1],)),),
                ((1, asks[:-1] + (asks[-1][:-1] + ((0,) * scheme.width,),)),),
            ]
            for coins in changed:
                self.assertIs(self.check_value((prime, many, most, books), Scheme(*bent(scheme, wishes=(coins,) + scheme.wishes[1:]))), False)
            if books > 1:
                swapped = scheme.wishes[1:] + scheme.wishes[:1]
                self.check_value((prime, many, most, books), Scheme(*bent(scheme, wishes=swapped)))
        self.assertIs(self.check_value((7, 2, 1, 2), made(2, 1, 2)), False)

    def test_bent_sums(self):
        """One letter of one sum changed, in all places of small schemes."""
        taken = 0
        for many, most, books in ((2, 1, 2), (2, 2, 2), (1, 1, 3), (3, 1, 1)):
            prime, scheme = least_prime(many, books), made(many, most, books)
            places = [path for path in paths(scheme.wishes) if len(path) == 6]
            for path in places:
                for letter in range(prime):
                    value = Scheme(*bent(scheme, wishes=put(scheme.wishes, path, letter)))
                    taken += self.check_value((prime, many, most, books), value)
        self.assertGreater(taken, 100)

    def test_values_of_every_kind(self):
        scheme = made(3, 2, 2)
        self.check_accepts(is_sums_scheme, (11, 3, 2, 2), KINDS + FAR + [
            six(scheme), scheme.wishes, (scheme,), [scheme], lone_scheme(11, 3, 2), all_scheme(11, 3, 2, 9, 0), open_scheme(11, 3, 2, 9, 0),
            made(3, 1, 2), made(3, 3, 2), made(2, 1, 2), sums_scheme(13, 3, 2, 2), sums_scheme(29, 3, 2, 3), Scheme(*bent(scheme, is_mixed=False)),
        ])
        self.assertIs(is_sums_scheme(11, 3, 2, 2, scheme), True)

    def test_equal_calls(self):
        self.check_twice(sum_counts, [(4, 2, 3)])
        self.check_twice(sums_length, [(6, 4)])
        self.check_twice(sums_mean, [(6, 1, 4)])
        self.check_twice(sums_scheme, [(11, 3, 2, 2), (29, 3, 1, 3)])
        self.check_twice(is_sums_scheme, [(11, 3, 2, 2, made(3, 2, 2)), (11, 3, 1, 2, made(3, 2, 2))])

    def test_not_true(self):
        """[17.5]"""
        rates = [Fraction(sums_mean(3, 2, books)[0], sums_length(3, books)) for books in range(1, 5)]
        self.assertLess(max(rates), 3)
        self.assertEqual(seen_answer(made(3, 1, 2), ((0, 1),))[0], "seen")
        self.assertEqual(sum_counts(3, 3, 2)[1], 0)
        alone = made(3, 3, 2)
        self.assertEqual({len(books_of(alone, row)) for row in own_sums(alone, 0, 0)}, {1})
        self.assertEqual([mean(made(3, 2, 1), 0), is_unseen(made(3, 2, 1), lone_lots(3))], [(3, 1), True])


if __name__ == "__main__":
    unittest.main()
