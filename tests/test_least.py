"""Stage 13: the least."""

import itertools
import random
import unittest
from fractions import Fraction

from fetchunseen.base.fractions import powers_added
from fetchunseen.bound import least as module
from fetchunseen.bound.least import books_within, gap, least_mean, least_rate, least_shown, scale
from fetchunseen.lots.lots import all_lots, free_houses, lone_lots
from fetchunseen.lots.weights import weights_answer
from tests.shapes import pair
from tests.support import Errors, FAR, FRACTION, KINDS, LOTS, NUMBERS, number, refused, too_many
from tests.test_lots import HOUSES, every_lot, every_lots, no_lots, some_lots, thirteen

TRIANGLE, LONE = ((0, 1), (0, 2), (1, 2)), ((0,), (1,))
BOOKS, LENGTH = (number, NUMBERS + [0, 21, 100]), (number, NUMBERS + [0, 101, 10 ** 59])
AS_LOTS = (LOTS, no_lots(3) + [thirteen()])


def own_scale(test, houses, lots):
    """s, shown by weights and a cover; None with a free house."""
    answer = weights_answer(houses, lots)
    if answer[0] == "free":
        test.assertFalse(any([answer[1] in lot for lot in lots]))
        return None
    weights, cover = [[Fraction(*some) for some in told] for told in answer[2:]]
    test.assertTrue(all([some >= 0 for some in weights + cover]))
    test.assertTrue(all([sum([weights[house] for house in lot]) <= 1 for lot in lots]))
    test.assertTrue(all([sum([some for lot, some in zip(lots, cover) if house in lot]) >= 1 for house in range(houses)]))
    test.assertEqual([sum(weights), sum(cover)], [Fraction(*answer[1])] * 2)
    return sum(weights)


def antichains(houses):
    """All lots none of which is within another one."""
    found = [()]
    for lot in every_lot(houses):
        found += [some + (lot,) for some in found if not any([set(one) <= set(lot) or set(lot) <= set(one) for one in some])]
    return [lots for lots in found if len(lots) <= 12]


def own_least(s, books, length):
    return length * sum([Fraction(1) if s is None and not at else Fraction(0) if s is None else (1 / s) ** at for at in range(books)])


class TestScale(Errors):
    """[13.1]"""

    def test_constant(self):
        self.assertEqual(module.MOST_BOOKS, 20)

    def check(self, houses, lots):
        s = own_scale(self, houses, lots)
        self.assertEqual(scale(houses, lots), None if s is None else pair(s))
        has_all = tuple(range(houses)) in lots
        self.assertEqual(s == 1, has_all)
        self.assertEqual(s is None, bool(free_houses(houses, lots)))
        if s is not None:
            self.assertGreaterEqual(s, 1)
            self.assertLessEqual(s, houses)
            if not has_all:
                self.assertGreaterEqual(s, Fraction(houses, houses - 1))
        return s

    def test_small(self):
        for houses in (1, 2, 3):
            for lots in every_lots(houses):
                self.check(houses, lots)
        self.assertEqual(len(antichains(4)), 168)
        for lots in antichains(4):
            self.check(4, lots)
        for lots in list(every_lots(4, 2)) + list(every_lots(4))[::11]:
            self.check(4, lots)

    def test_greater(self):
        generator = random.Random(130)
        for houses in (4, 5, 6):
            for _ in range(200):
                lots = some_lots(generator, houses, generator.randrange(13))
                s = self.check(houses, lots)
                more = tuple(sorted({*lots, *some_lots(generator, houses, 1)}))
                if len(more) <= 12 and s is not None:
                    self.assertLessEqual(self.check(houses, more), s)
                wider = tuple(sorted({tuple(sorted({*lot, generator.randrange(houses)})) for lot in lots}))
                if s is not None:
                    self.assertLessEqual(self.check(houses, wider), s)

    def test_known(self):
        for houses in range(1, 7):
            self.assertEqual(scale(houses, lone_lots(houses)), (houses, 1))
            self.assertEqual(scale(houses, (tuple(range(houses)),)), (1, 1))
            self.assertIsNone(scale(houses, ()))
            for most in range(1, houses + 1):
                if len(list(itertools.combinations(range(houses), most))) <= 12:
                    self.assertEqual(scale(houses, all_lots(houses, most)), pair(Fraction(houses, most)))


def some_of_all():
    """Pairs (houses, lots) of all kinds: free houses, lots of all houses, others."""
    generator = random.Random(131)
    some = [(1, ()), (1, ((0,),)), (3, TRIANGLE), (2, LONE), (3, ((0, 1),)), (2, ((0, 1),)), (4, ((0, 1, 2), (0, 3), (1, 3), (2, 3))),
            (6, lone_lots(6)), (6, all_lots(6, 5)), (5, ((0, 1, 2), (0, 3), (0, 4), (1, 3), (1, 4), (2, 3, 4)))]
    return some + [(6, some_lots(generator, 6, 12)) for _ in range(12)] + [(5, some_lots(generator, 5, 7)) for _ in range(12)]


class TestLeast(Errors):
    """[13.2] to [13.5], with [4.4]"""

    def test_means_and_rates(self):
        for houses, lots in some_of_all():
            s = own_scale(self, houses, lots)
            for length in (1, 4, 9, 99, 100):
                ahead = None
                for books in range(1, 21):
                    wanted = own_least(s, books, length)
                    self.assertEqual(least_mean(houses, lots, books, length), pair(wanted))
                    rate = least_rate(houses, lots, books)
                    self.assertEqual(rate, pair(length / wanted))
                    if ahead is not None:
                        self.assertEqual(wanted, length + (ahead / s if s is not None else 0))
                        self.check_rate(s, Fraction(*rate), length / ahead)
                    ahead = wanted
            if s is not None:
                for books in range(1, 21):
                    self.assertEqual(least_mean(houses, lots, books, 1), powers_added(pair(1 / s), books))

    def check_rate(self, s, rate, ahead):
        """[13.3]"""
        if s is None:
            self.assertEqual([rate, ahead], [1, 1])
        else:
            self.assertLess(rate, ahead)
            self.assertGreater(rate, 1 - 1 / s)

    def test_rates_grow_with_scale(self):
        told = {}
        for houses, lots in some_of_all():
            s = own_scale(self, houses, lots)
            if s is not None:
                told[s] = [Fraction(*least_rate(houses, lots, books)) for books in (1, 2, 3, 20)]
        self.assertGreater(len(told), 4)
        for one, other in itertools.combinations(sorted(told), 2):
            self.assertEqual(told[one][0], told[other][0])
            self.assertTrue(all([low < high for low, high in zip(told[one][1:], told[other][1:])]))

    def test_known(self):
        for length in (1, 7, 100):
            self.assertEqual([least_mean(3, ((0, 1),), books, length) for books in (1, 4, 20)], [(length, 1)] * 3)
            self.assertEqual([least_mean(2, ((0, 1),), books, length) for books in (1, 4, 20)], [(length, 1), (4 * length, 1), (20 * length, 1)])
            self.assertEqual(least_mean(6, lone_lots(6), 1, length), (length, 1))
        self.assertEqual([least_mean(3, TRIANGLE, 2, 9), least_mean(2, LONE, 3, 1)], [(15, 1), (7, 4)])

    def test_shown_and_gap(self):
        for houses, lots in some_of_all():
            s = own_scale(self, houses, lots)
            for length in (1, 4, 100):
                shown = least_shown(houses, lots, length)
                if s is None:
                    self.assertEqual(shown, ((length, 1), (0, 1)))
                    self.assertEqual([gap(houses, lots, books, length) for books in range(1, 21)], [(0, 1)] * 20)
                elif s == 1:
                    self.assertIsNone(shown)
                    for books in (1, 2, 20):
                        self.check_error(gap, (houses, lots, books, length), refused("all"))
                else:
                    self.assertEqual(shown, (pair(length * s / (s - 1)), pair(length / (s - 1))))
                    self.check_gap(houses, lots, s, length, Fraction(*shown[0]))

    def check_gap(self, houses, lots, s, length, most):
        """[13.5]"""
        ahead = None
        for books in range(1, 21):
            told = Fraction(*gap(houses, lots, books, length))
            self.assertEqual(gap(houses, lots, books, length), pair(told))
            self.assertEqual(told, most - Fraction(*least_mean(houses, lots, books, length)))
            self.assertGreater(told, 0)
            if ahead is not None:
                self.assertEqual(told, ahead / s)
            ahead = told

    def test_books_within(self):
        long = 10 ** 60 - 1
        for houses, lots in some_of_all():
            s = own_scale(self, houses, lots)
            for length in (1, 4, 100):
                if s == 1:
                    for goal in ((1, 1), (1, long), (long, 1)):
                        self.check_error(books_within, (houses, lots, length, goal), refused("all"))
                    continue
                goals = [Fraction(1, 7), Fraction(5), Fraction(100), Fraction(1, 10 ** 8), Fraction(1, long), Fraction(long), Fraction(long - 1, long)]
                if s is not None:
                    exact = [Fraction(*gap(houses, lots, books, length)) for books in (1, 2, 7, 20)]
                    goals += exact + [some + Fraction(1, 10 ** 20) for some in exact] + [some - Fraction(1, 10 ** 20) for some in exact]
                for goal in goals:
                    if max(goal.numerator, goal.denominator) < 10 ** 60 and goal > 0:
                        self.check_within_goal(houses, lots, length, goal, s)

    def check_within_goal(self, houses, lots, length, goal, s):
        gaps = [Fraction(0) if s is None else length / ((s - 1) * s ** (books - 1)) for books in range(1, 21)]
        fits = [books for books, told in enumerate(gaps, 1) if told <= goal]
        arguments = (houses, lots, length, pair(goal))
        if fits:
            self.assertEqual(books_within(*arguments), fits[0])
        else:
            self.check_error(books_within, arguments, too_many(20))

    def test_books_within_known(self):
        self.assertEqual([books_within(3, TRIANGLE, 4, (1, 1)), books_within(3, ((0, 1),), 100, (1, 10 ** 60 - 1))], [7, 1])
        self.check_error(books_within, (6, lone_lots(6), 100, (1, 10 ** 59)), too_many(20))
        self.assertEqual(books_within(2, LONE, 1, (1, 2 ** 19)), 20)
        self.check_error(books_within, (2, LONE, 1, (1, 2 ** 19 + 1)), too_many(20))


class TestRefused(Errors):
    def test_errors(self):
        self.check_arguments(scale, (3, TRIANGLE), [HOUSES, AS_LOTS])
        self.check_arguments(least_mean, (3, TRIANGLE, 2, 9), [HOUSES, AS_LOTS, BOOKS, LENGTH])
        self.check_arguments(least_rate, (3, TRIANGLE, 2), [HOUSES, AS_LOTS, BOOKS])
        self.check_arguments(least_shown, (3, TRIANGLE, 2), [HOUSES, AS_LOTS, LENGTH])
        self.check_arguments(gap, (3, TRIANGLE, 2, 9), [HOUSES, AS_LOTS, BOOKS, LENGTH])
        goals = KINDS + FAR + [
            3, (), (1,), (1, 1, 1), (0, 1), (-1, 2), (2, 4), (1, 0), (1, -2), (True, 1), (1, True), [1, 2], ("1", 2), (1, None), ((1,), 2),
            (10 ** 60, 1), (1, 10 ** 60), (1, 10 ** 99), {1: 2},
        ]
        self.check_arguments(books_within, (3, TRIANGLE, 4, (1, 1)), [HOUSES, AS_LOTS, LENGTH, (FRACTION, goals)])
        # What is refused for all lots comes behind each wrong argument.
        whole = (2, ((0, 1),))
        for value in NUMBERS:
            self.check_error(gap, whole + (value, 4), number(value))
            self.check_error(gap, whole + (3, value), number(value))
            self.check_error(books_within, whole + (value, (1, 1)), number(value))
        for value in goals:
            self.check_error(books_within, whole + (4, value), FRACTION(value))

    def test_equal_calls(self):
        self.check_twice(scale, [(3, TRIANGLE), (3, ((0, 1),))])
        self.check_twice(least_mean, [(3, TRIANGLE, 2, 9)])
        self.check_twice(least_rate, [(3, TRIANGLE, 2)])
        self.check_twice(least_shown, [(3, TRIANGLE, 4)])
        self.check_twice(gap, [(3, TRIANGLE, 2, 4)])
        self.check_twice(books_within, [(3, TRIANGLE, 4, (1, 1))])

    def test_not_true(self):
        """[13.6]"""
        self.assertEqual(least_mean(3, TRIANGLE, 2, 1), (5, 3))
        self.assertEqual(scale(4, ((0, 1), (2, 3))), scale(4, ((0, 1), (1, 2), (2, 3))))
        self.assertEqual([least_mean(2, LONE, books, 1) for books in (1, 2)], [(1, 1), (3, 2)])
        self.assertEqual(scale(4, ((0, 1, 2), (0, 3), (1, 3), (2, 3))), (5, 3))
        self.assertEqual(least_mean(2, LONE, 2, 1), least_mean(3, ((0, 2), (1,)), 2, 1))


if __name__ == "__main__":
    unittest.main()
