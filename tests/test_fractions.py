"""Stage 4: fractions, held against the fractions of the standard library."""

import itertools
import math
import random
import unittest
from fractions import Fraction

from fetchunseen.base import fractions as module
from fetchunseen.base.fractions import added, compared, fraction, is_fraction, less, mean, over, plus
from fetchunseen.base.fractions import powers_added, times
from fetchunseen.errors import InvalidFraction, Refused
from tests.support import Errors, FRACTION, KINDS, NUMBERS, OPERATION, number, objects

FARTHEST = 10 ** 60 - 1
NO_FRACTIONS = KINDS + [
    3, (), (1,), (1, 2, 3), [1, 2], (2, 4), (0, 2), (1, -2), (-1, -2), (1, 0), (0, 0), (0, -1), (True, 1), (1, True),
    (False, 1), (1, None), ("1", 2), ((1, 2), 3), ((1, 2),), (10 ** 60, 1), (1, 10 ** 60), (-10 ** 60, 1),
    (10 ** 99, 1), (1, 10 ** 99), (6, -4), (-6, 4), {1: 2}, "12", (objects()[0], 1), (1, []), (1, {}),
]


def pair(some):
    return (some.numerator, some.denominator)


def small():
    return sorted({Fraction(top, bottom) for top in range(-4, 5) for bottom in range(1, 5)})


def long_ones(random_source, many):
    found = []
    while len(found) < many:
        digits = random_source.randrange(1, 61), random_source.randrange(1, 61)
        some = Fraction(random_source.randrange(1 - 10 ** digits[0], 10 ** digits[0]), random_source.randrange(1, 10 ** digits[1]))
        found.append(some)
    return found


def greatest_ones():
    return [Fraction(FARTHEST, FARTHEST - 1), Fraction(-FARTHEST, FARTHEST - 1), Fraction(1, FARTHEST), Fraction(FARTHEST)]


class TestForm(Errors):
    """[4.1]"""

    def test_constant(self):
        self.assertEqual(module.MOST_ADDED, 100)

    def test_just_one_form(self):
        for top, bottom in itertools.product(range(-20, 21), repeat=2):
            lowest = bottom > 0 and math.gcd(top, bottom) == 1
            self.assertIs(is_fraction((top, bottom)), lowest)
            if bottom != 0:
                self.assertEqual(fraction(top, bottom), pair(Fraction(top, bottom)))

    def test_many_digits(self):
        generator = random.Random(40)
        for some in long_ones(generator, 200) + greatest_ones():
            self.assertIs(is_fraction(pair(some)), True)
            self.assertEqual(fraction(-some.numerator, -some.denominator), pair(some))
        self.assertEqual(fraction(FARTHEST, -FARTHEST), (-1, 1))
        self.assertEqual(fraction(0, -FARTHEST), (0, 1))

    def test_is_fraction_takes_no_other(self):
        self.check_accepts(is_fraction, (), NO_FRACTIONS)

    def test_fraction_errors(self):
        beyond = [some for some in NUMBERS if some != -1] + [10 ** 60 + 1]
        self.check_arguments(fraction, (6, -4), [(number, beyond), (number, beyond + [0])])
        self.check_error(fraction, (None, 0), number(None))
        self.check_error(fraction, (0, 0), number(0))
        self.check_error(fraction, (10 ** 60, 10 ** 60), number(10 ** 60))
        self.assertEqual(fraction(-1, -1), (1, 1))


class TestSums(Errors):
    """[4.1] for the order, and [4.2]."""

    def check_pair(self, one, other):
        left, right = pair(one), pair(other)
        self.assertEqual(plus(left, right), pair(one + other))
        self.assertEqual(less(left, right), pair(one - other))
        self.assertEqual(times(left, right), pair(one * other))
        self.assertEqual(compared(left, right), (one > other) - (one < other))
        if other:
            self.assertEqual(over(left, right), pair(one / other))

    def test_small(self):
        for one, other in itertools.product(small(), repeat=2):
            self.check_pair(one, other)

    def test_long(self):
        generator = random.Random(41)
        some = long_ones(generator, 40) + greatest_ones() + small()[::5]
        for one, other in itertools.product(some, repeat=2):
            self.check_pair(one, other)

    def test_back_again(self):
        for one, other in itertools.product([pair(some) for some in small()], repeat=2):
            self.assertEqual(less(plus(one, other), other), one)
            if other != (0, 1):
                self.assertEqual(over(times(one, other), other), one)

    def test_longer_results_are_no_fractions(self):
        most = pair(Fraction(FARTHEST, FARTHEST - 1))
        longer = times(most, most)
        self.assertEqual(longer, pair(Fraction(FARTHEST, FARTHEST - 1) ** 2))
        self.assertIs(is_fraction(longer), False)
        self.assertIs(is_fraction(plus((FARTHEST, 1), (1, 1))), False)
        for function in (plus, less, times, over, compared):
            self.check_error(function, (longer, (1, 1)), FRACTION(None))
            self.check_error(function, ((1, 1), longer), FRACTION(None))

    def test_compared_kind(self):
        for one, other in (((1, 2), (1, 3)), ((1, 2), (1, 2)), ((0, 1), (1, 2))):
            self.assertIs(type(compared(one, other)), int)

    def test_errors(self):
        wrong = (FRACTION, NO_FRACTIONS)
        for function in (plus, less, times, over, compared):
            self.check_arguments(function, ((1, 2), (-3, 4)), [wrong, wrong])
        self.check_error(over, ((1, 2), (0, 1)), (Refused, "reason", ("zero",)))
        self.check_error(over, ((0, 1), (0, 1)), (Refused, "reason", ("zero",)))
        self.check_error(over, ((0, 2), (0, 1)), FRACTION(None))
        self.check_error(over, ((0, 1), (0, 2)), FRACTION(None))


class TestAdded(Errors):
    def test_sums(self):
        generator = random.Random(42)
        for many in (0, 1, 2, 12, 99, 100):
            some = long_ones(generator, many)
            self.assertEqual(added(tuple([pair(one) for one in some])), pair(sum(some, Fraction(0))))
        self.assertEqual([added(()), added(((1, 2),) * 100), added(((1, 3), (-1, 3)))], [(0, 1), (50, 1), (0, 1)])

    def test_sequence_and_brackets(self):
        some = [pair(one) for one in small()][::4]
        told = added(tuple(some))
        for turned in (some[::-1], some[3:] + some[:3]):
            self.assertEqual(added(tuple(turned)), told)
        self.assertEqual(added((added(tuple(some[:4])), *some[4:])), told)

    def test_errors(self):
        wrong = KINDS + [1, (1, 2), ((1, 2), (2, 4)), ((True, 1),), [(1, 2)], ((1, 2),) * 101, ((0, 1), None)]
        wrong += [((1, 2), one) for one in NO_FRACTIONS] + [((10 ** 60, 1),), ((1, 10 ** 99),)]
        self.check_arguments(added, (((1, 2),),), [(FRACTION, wrong)])


class TestMean(Errors):
    """[4.3]"""

    def own_mean(self, pairs):
        return sum([count * some for count, some in pairs], Fraction(0)) / sum([count for count, _ in pairs])

    def told(self, pairs):
        return mean(tuple([(count, pair(some)) for count, some in pairs]))

    def some_pairs(self, generator, many, most):
        return [(generator.randrange(1, most + 1), some) for some in long_ones(generator, many)]

    def test_means(self):
        generator = random.Random(43)
        for many, most in ((1, 1), (1, 10 ** 9), (2, 3), (9, 10 ** 9), (99, 7), (100, 10 ** 9)):
            pairs = self.some_pairs(generator, many, most)
            self.assertEqual(self.told(pairs), pair(self.own_mean(pairs)))
        self.assertEqual(mean(((10 ** 9, (1, 2)),) * 100), (1, 2))

    def test_between(self):
        for counts in itertools.product((1, 2, 5), repeat=3):
            for some in itertools.product(small()[::6], repeat=3):
                pairs = list(zip(counts, some))
                told = Fraction(*self.told(pairs))
                if len(set(some)) == 1:
                    self.assertEqual(told, some[0])
                else:
                    self.assertTrue(min(some) < told < max(some))

    def test_stays(self):
        generator = random.Random(44)
        pairs = self.some_pairs(generator, 7, 90)
        told = self.told(pairs)
        self.assertEqual(self.told([(count * 11, some) for count, some in pairs]), told)
        self.assertEqual(self.told(pairs[::-1]), told)
        (one, some), rest = pairs[0], pairs[1:]
        self.assertEqual(self.told([(one, some)] + rest + [(4, some)]), self.told([(one + 4, some)] + rest))

    def test_equal_times(self):
        ones, others = small()[:9], small()[5:14]
        sums = self.told([(3, one + other) for one, other in zip(ones, others)])
        parts = [self.told([(3, one) for one in some]) for some in (ones, others)]
        self.assertEqual(sums, plus(*parts))
        self.assertEqual(self.told([(3, one * 5) for one in ones]), times(parts[0], (5, 1)))

    def test_errors(self):
        good = (1, (1, 2))
        wrong = KINDS + [(), 3, (1, (1, 2)), good, [good], (good, [1, (1, 2)]), (good,) * 101, (good, None), ((1,),)]
        wrong += [(good, (count, (1, 2))) for count in NUMBERS + [0, 10 ** 9 + 1]]
        wrong += [(good, (1, some)) for some in NO_FRACTIONS] + [(good, (1, (1, 2), 3)), ((1, 2),), (((1, 2), 1),)]
        self.check_arguments(mean, ((good,),), [(OPERATION, wrong)])


class TestPowers(Errors):
    """[4.4]"""

    def test_terms(self):
        for some in small() + long_ones(random.Random(45), 6):
            made, term = Fraction(0), Fraction(1)
            for many in range(1, 12):
                made, term = made + term, term * some
                told = powers_added(pair(some), many)
                self.assertEqual(told, pair(made))
                longer = powers_added(pair(some), many + 1)
                self.assertEqual(Fraction(*longer), 1 + some * made)
                if some > 0:
                    self.assertGreater(Fraction(*longer), made)
                if 0 < some < 1:
                    self.assertEqual(1 / (1 - some) - made, some ** many / (1 - some))

    def test_either_or(self):
        for many in (1, 2, 50, 100):
            self.assertEqual(powers_added((1, 1), many), (many, 1))
            for some in (Fraction(2, 3), Fraction(-7, 2), Fraction(0), Fraction(5), greatest_ones()[0]):
                self.assertEqual(powers_added(pair(some), many), pair((1 - some ** many) / (1 - some)))

    def test_not_true(self):
        self.assertLess(Fraction(*powers_added((-1, 2), 2)), Fraction(*powers_added((-1, 2), 1)))
        self.assertIs(is_fraction((3, -2)), False)
        self.assertEqual(plus((1, 2), (1, 2))[0], 1)

    def test_errors(self):
        wrong = [(FRACTION, NO_FRACTIONS), (number, NUMBERS + [0, 101, 10 ** 59])]
        self.check_arguments(powers_added, ((1, 2), 3), wrong)


class TestCalls(Errors):
    def test_equal_calls(self):
        for function in (plus, less, times, over, compared):
            self.check_twice(function, [((1, 2), (-3, 4)), ((FARTHEST, 2), (7, FARTHEST - 1))])
        self.check_twice(fraction, [(6, -4)])
        self.check_twice(is_fraction, [((6, -4),), ((1, 2),)])
        self.check_twice(added, [(((1, 2), (1, 3)),)])
        self.check_twice(mean, [(((1, (1, 2)), (4, (1, 3))),)])
        self.check_twice(powers_added, [((2, 3), 100)])

    def test_errors_are_exact(self):
        with self.assertRaises(InvalidFraction):
            plus((2, 4), (1, 2))


if __name__ == "__main__":
    unittest.main()
