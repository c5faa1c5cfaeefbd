"""Stage 6: weights and covers, judged by sums of the tests' own."""

import itertools
import random
import unittest
from fractions import Fraction

from fetchunseen.errors import Refused, TooMany
from fetchunseen.lots import weights as module
from fetchunseen.lots.lots import are_within, exchanged_lots, greatest_lots
from fetchunseen.lots.weights import is_cover, is_weights, is_weights_answer, lot_sums_of, parts_of, sum_of
from fetchunseen.lots.weights import weights_answer
from tests.support import Errors, FAR, FRACTION, KINDS, LOTS, OPERATION, objects
from tests.test_fractions import NO_FRACTIONS
from tests.test_lots import HOUSES, every_lots, no_lots, own_free, own_greatest, some_lots, thirteen

RING, PATH = ((0, 1), (0, 2), (1, 2)), ((0, 1), (1, 2), (2, 3))
HALVES = ((1, 2), (1, 2), (1, 2))
WHEEL = ((0, 1, 2, 3), (0, 4), (1, 4), (2, 4), (3, 4))
AS_LOTS = (LOTS, no_lots(3) + [thirteen()])


def numbers(some):
    return [Fraction(*one) for one in some]


def pair(some):
    return (some.numerator, some.denominator)


def borne(lots, weights):
    return [sum([weights[house] for house in lot], Fraction(0)) for lot in lots]


def counted(houses, lots, cover):
    return [sum([part for lot, part in zip(lots, cover) if house in lot], Fraction(0)) for house in range(houses)]


def least_parts(houses, lots, s):
    """The least b and the least parts, or None if s b is above 6 first, by trying each b."""
    for b in range(1, 7):
        if s * b > 6:
            return None
        fits = [a for a in itertools.product(range(b + 1), repeat=houses)
                if sum(a) == s * b and all(sum([a[house] for house in lot]) <= b for lot in lots)]
        if fits:
            return min(fits), b
    return None


class TestJudges(Errors):
    """[6.1]"""

    def test_constant(self):
        self.assertEqual(module.MOST_PARTS, 6)

    def test_small(self):
        some = ((0, 1), (1, 3), (1, 2), (2, 3), (1, 1), (3, 2))
        for houses in (1, 2):
            for lots in every_lots(houses, 3):
                for value in itertools.product(some, repeat=houses):
                    is_one = all(one <= 1 for one in borne(lots, numbers(value)))
                    self.assertIs(is_weights(houses, lots, value), is_one)
                    told = tuple([pair(one) for one in borne(lots, numbers(value))])
                    self.assertEqual(lot_sums_of(houses, lots, value), told)
                for value in itertools.product(some, repeat=len(lots)):
                    is_one = all(one >= 1 for one in counted(houses, lots, numbers(value)))
                    self.assertIs(is_cover(houses, lots, value), is_one)

    def test_ring(self):
        some = ((0, 1), (1, 3), (1, 2), (2, 3), (1, 1))
        for value in itertools.product(some, repeat=3):
            self.assertIs(is_weights(3, RING, value), all(one <= 1 for one in borne(RING, numbers(value))))
            self.assertIs(is_cover(3, RING, value), all(one >= 1 for one in counted(3, RING, numbers(value))))

    def test_never_above(self):
        """[6.2]"""
        generator = random.Random(60)
        some, both = [Fraction(top, 4) for top in range(5)], 0
        for _ in range(3000):
            houses = generator.randrange(1, 5)
            lots = some_lots(generator, houses, generator.randrange(1, 5))
            weights = tuple([pair(generator.choice(some[:3])) for _ in range(houses)])
            cover = tuple([pair(generator.choice(some)) for _ in lots])
            if is_weights(houses, lots, weights) and is_cover(houses, lots, cover):
                self.assertLessEqual(sum(numbers(weights)), sum(numbers(cover)))
                both += 1
        self.assertGreater(both, 100)

    def test_free_house(self):
        self.assertIs(is_cover(2, ((0,),), ((5, 1),)), False)
        self.assertIs(is_cover(1, (), ()), False)
        self.assertIs(is_cover(1, ((),), ((10 ** 59, 1),)), False)
        for much in ((0, 1), (10 ** 60 - 1, 1), (7, 2)):
            self.assertIs(is_weights(2, ((0,),), ((1, 1), much)), True)
            self.assertIs(is_weights(1, ((),), (much,)), True)

    def test_long_fractions(self):
        under, above = (10 ** 59 - 1, 10 ** 59), (10 ** 59 + 1, 10 ** 59)
        least = (1, 10 ** 59)
        self.assertIs(is_weights(2, ((0, 1),), (under, least)), True)
        self.assertIs(is_weights(2, ((0, 1),), (above, (0, 1))), False)
        self.assertIs(is_weights(2, ((0, 1),), (under, (1, 10 ** 59 - 1))), False)
        self.assertIs(is_cover(1, ((0,),), (under,)), False)
        self.assertIs(is_cover(1, ((0,),), (above,)), True)
        self.assertEqual(lot_sums_of(2, ((), (0, 1)), (under, least)), ((0, 1), (1, 1)))

    def test_judged_values(self):
        shapes = KINDS + FAR + [(), 3, HALVES[:2], HALVES + HALVES[:1], list(HALVES), [*HALVES], (1, 2), ((), (), ())]
        shapes += [((1, 2), some, (1, 2)) for some in NO_FRACTIONS + [(-1, 2), (-1, 1)]]
        self.check_accepts(is_weights, (3, RING), shapes)
        self.check_accepts(is_cover, (3, RING), shapes)
        for value in (HALVES, ((1, 1), (0, 1), (0, 1))):
            self.assertIs(is_weights(3, RING, value), True)
        for value in (HALVES, ((1, 1), (1, 1), (0, 1)), ((10 ** 60 - 1, 1),) * 3):
            self.assertIs(is_cover(3, RING, value), True)

    def test_errors(self):
        for function in (is_weights, is_cover, is_weights_answer):
            self.check_arguments(function, (3, RING, HALVES), [HOUSES, AS_LOTS, None])
            self.check_arguments(function, (3, RING, None), [HOUSES, AS_LOTS, None])


class TestSums(Errors):
    def test_sum_of(self):
        generator = random.Random(61)
        for many in (0, 1, 6, 11, 12):
            some = [Fraction(generator.randrange(-10 ** 30, 10 ** 30), generator.randrange(1, 10 ** 30)) for _ in range(many)]
            self.assertEqual(sum_of(tuple([pair(one) for one in some])), pair(sum(some, Fraction(0))))
        self.assertEqual([sum_of(()), sum_of(((1, 12),) * 12), sum_of(((-1, 2), (1, 2)))], [(0, 1), (1, 1), (0, 1)])
        wrong = KINDS + FAR + [3, (1, 2), [(1, 2)], ((1, 2),) * 13, ((1, 2), (2, 4))] + [((1, 2), one) for one in NO_FRACTIONS]
        self.check_arguments(sum_of, (HALVES,), [(FRACTION, wrong)])

    def test_lot_sums(self):
        generator = random.Random(62)
        for _ in range(200):
            houses = generator.randrange(1, 7)
            lots = some_lots(generator, houses, 12)
            weights = [Fraction(generator.randrange(9), generator.randrange(1, 9)) for _ in range(houses)]
            told = lot_sums_of(houses, lots, tuple([pair(one) for one in weights]))
            self.assertEqual(told, tuple([pair(one) for one in borne(lots, weights)]))
        self.assertEqual(lot_sums_of(2, (), ((7, 1), (8, 1))), ())
        self.assertEqual(lot_sums_of(2, ((), (0, 1)), ((7, 1), (8, 1))), ((0, 1), (15, 1)))
        wrong = KINDS + FAR + [(), 3, HALVES[:2], HALVES * 2, list(HALVES)]
        wrong += [((1, 2), some, (1, 2)) for some in NO_FRACTIONS + [(-1, 2)]]
        self.check_arguments(lot_sums_of, (3, RING, HALVES), [HOUSES, AS_LOTS, (OPERATION, wrong)])


class TestAnswers(Errors):
    """[6.3] and [6.4]"""

    def check_answer(self, houses, lots):
        """s, judged by sums of the test's own; None with a free house."""
        answer = weights_answer(houses, lots)
        free = own_free(houses, lots)
        if free:
            self.assertEqual((type(answer), answer[0], len(answer)), (tuple, "free", 2))
            self.assertIn(answer[1], free)
            return None
        word, s, weights, cover = answer
        self.assertEqual((type(answer), word, len(weights), len(cover)), (tuple, "weights", houses, len(lots)))
        self.assertEqual((type(weights), type(cover)), (tuple, tuple))
        for some in (s, *weights, *cover):
            self.assertEqual(some, pair(Fraction(*some)))
            self.assertTrue(0 <= some[0] < 10 ** 30 and 0 < some[1] < 10 ** 30)
            self.assertEqual([type(one) for one in (some, *some)], [tuple, int, int])
        weights, cover = numbers(weights), numbers(cover)
        self.assertTrue(all(one <= 1 for one in borne(lots, weights)))
        self.assertTrue(all(one >= 1 for one in counted(houses, lots, cover)))
        self.assertEqual([sum(weights), sum(cover)], [Fraction(*s)] * 2)
        self.assertTrue(1 <= sum(weights) <= houses)
        return Fraction(*s)

    def test_up_to_three_houses(self):
        for houses in (1, 2, 3):
            for lots in every_lots(houses):
                s = self.check_answer(houses, lots)
                self.assertIs(is_weights_answer(houses, lots, weights_answer(houses, lots)), True)
                for house in range(houses):
                    is_free = house in own_free(houses, lots)
                    self.assertIs(is_weights_answer(houses, lots, ("free", house)), is_free)
                self.check_parts(houses, lots, s)

    def test_four_houses(self):
        found = {}
        for lots in every_lots(4):
            key = own_greatest(lots)
            s = self.check_answer(4, lots)
            self.assertEqual(found.setdefault(key, s), s)

    def test_more_houses(self):
        generator = random.Random(63)
        for houses in (4, 5, 6):
            for many in list(range(13)) * 12:
                lots = some_lots(generator, houses, many)
                self.check_hangs_on(generator, houses, lots)

    def check_hangs_on(self, generator, houses, lots):
        s = self.check_answer(houses, lots)
        self.assertIs(is_weights_answer(houses, lots, weights_answer(houses, lots)), True)
        self.assertEqual(self.check_answer(houses, greatest_lots(houses, lots)), s)
        order = tuple(generator.sample(range(houses), houses))
        self.assertEqual(self.check_answer(houses, exchanged_lots(houses, lots, order)), s)
        more = tuple(sorted({*lots, *some_lots(generator, houses, 1)}))
        if len(more) <= 12 and s is not None:
            self.assertLessEqual(self.check_answer(houses, more), s)

    def test_lots_within_others(self):
        """[5.2], of s."""
        generator = random.Random(67)
        compared = 0
        for _ in range(400):
            houses = generator.randrange(2, 7)
            others = some_lots(generator, houses, generator.randrange(1, 8))
            cut = [tuple([house for house in lot if generator.randrange(4)]) for lot in others]
            lots = tuple(sorted(set(cut)))
            self.assertIs(are_within(houses, lots, others), True)
            s, more = self.check_answer(houses, lots), self.check_answer(houses, others)
            if s is not None:
                self.assertGreaterEqual(s, more)
                compared += 1
        self.assertGreater(compared, 40)

    def test_known(self):
        whole = tuple(range(6))
        self.assertEqual(self.check_answer(6, (whole,)), 1)
        self.assertEqual(self.check_answer(6, tuple([(house,) for house in whole])), 6)
        self.assertEqual(self.check_answer(1, ((0,),)), 1)
        self.assertEqual(self.check_answer(4, ((0, 1, 2), (0, 3), (1, 3), (2, 3))), Fraction(5, 3))
        self.assertEqual(self.check_answer(5, WHEEL), Fraction(7, 4))
        for houses, most in ((3, 2), (4, 2), (4, 3), (5, 4), (6, 5), (5, 2)):
            lots = tuple(itertools.combinations(range(houses), most))
            self.assertEqual(self.check_answer(houses, lots), Fraction(houses, most))
        self.assertEqual(weights_answer(3, ((1,),)), ("free", 0))
        self.assertIn(weights_answer(6, ())[1], whole)

    def test_greatest_bounds(self):
        generator = random.Random(64)
        for least in range(1, 6):
            wide = [lot for most in range(least, 7) for lot in itertools.combinations(range(6), most)]
            for _ in range(60):
                lots = tuple(sorted(generator.sample(wide, min(12, len(wide)))))
                s = self.check_answer(6, lots)
                self.check_parts(6, lots, s)

    def test_each_answer_is_taken(self):
        for weights in (((1, 1), (0, 1), (0, 1), (1, 1)), ((1, 1), (0, 1), (1, 1), (0, 1)), HALVES + HALVES[:1]):
            value = ("weights", (2, 1), weights, ((1, 1), (0, 1), (1, 1)))
            self.assertIs(is_weights_answer(4, PATH, value), True)
        square = ((0, 1), (0, 3), (1, 2), (2, 3))
        for cover in (((1, 1), (0, 1), (0, 1), (1, 1)), ((0, 1), (1, 1), (1, 1), (0, 1)), ((1, 2),) * 4):
            value = ("weights", (2, 1), ((1, 1), (0, 1), (1, 1), (0, 1)), cover)
            self.assertIs(is_weights_answer(4, square, value), True)
        for house in (0, 2):
            self.assertIs(is_weights_answer(3, ((1,),), ("free", house)), True)
        long = Fraction(10 ** 50 - 1, 10 ** 50)
        value = ("weights", (2, 1), tuple([pair(one) for one in (long, 1 - long, long, 1 - long)]), ((1, 2),) * 4)
        self.assertIs(is_weights_answer(4, square, value), True)

    def test_judged_values(self):
        good = ("weights", (3, 2), HALVES, HALVES)
        self.assertIs(is_weights_answer(3, RING, good), True)
        values = KINDS + FAR + [
            (), good[:3], good + (HALVES,), list(good), ("free",), ("free", 0), ("free", 3), ("weights", 0), ("free", 0, 0),
            ("free", True), ("weights", (3, 2), HALVES, ((1, 1), (1, 1), (0, 1))), ("weights", (1, 1), HALVES, HALVES),
            ("weights", (2, 1), HALVES, ((1, 1), (1, 1), (0, 1))), ("weights", (1, 1), ((1, 1), (0, 1), (0, 1)), HALVES),
            ("weights", (1, 1), ((1, 1), (0, 1), (0, 1)), ((1, 2), (1, 2), (0, 1))), ("free", (3, 2), HALVES, HALVES),
            ("weights", (3, 1), ((1, 1),) * 3, ((1, 1),) * 3), ("weight", (3, 2), HALVES, HALVES),
            ("weights", (5, 4), ((1, 2), (1, 2), (1, 4)), HALVES), ("weights", (0, 1), ((0, 1),) * 3, ((0, 1),) * 3),
        ]
        values += [("weights", some, HALVES, HALVES) for some in NO_FRACTIONS + [(6, 4), (1, 2), (-3, 2), (3, True)]]
        shapes = KINDS + FAR + [(), HALVES[:2], HALVES + HALVES[:1], list(HALVES)]
        shapes += [((1, 2), some, (1, 2)) for some in NO_FRACTIONS]
        values += [("weights", (3, 2), some, HALVES) for some in shapes]
        values += [("weights", (3, 2), HALVES, some) for some in shapes]
        values += [(some, (3, 2), HALVES, HALVES) for some in objects() + [None, True, "WEIGHTS", ["weights"], ("weights",)]]
        self.check_accepts(is_weights_answer, (3, RING), values)
        self.check_accepts(is_weights_answer, (3, ((1,),)), [
            ("free", 1), ("free", 3), ("free", -1), ("free", False), ("free", None), ("free", (0,)), ["free", 0],
            ("free", 10 ** 60), ("free", "0"), ("free", 10 ** 99), ("Free", 0), ("weights", (1, 1), ((1, 1),) * 3, ((1, 1),)),
        ])

    def test_true_is_not_one(self):
        one, zero = (1, 1), (0, 1)
        self.assertIs(is_weights_answer(2, ((0, 1),), ("weights", one, (one, zero), (one,))), True)
        wrong = [(True, 1), (1, True), (True, True), [1, 1]]
        values = [("weights", some, (one, zero), (one,)) for some in wrong]
        values += [("weights", one, (some, zero), (one,)) for some in wrong]
        values += [("weights", one, (one, (False, 1)), (one,))] + [("weights", one, (one, zero), (some,)) for some in wrong]
        self.check_accepts(is_weights_answer, (2, ((0, 1),)), values)

    def test_errors(self):
        for function in (weights_answer, parts_of):
            self.check_arguments(function, (3, RING), [HOUSES, AS_LOTS])

    def check_parts(self, houses, lots, s):
        """[6.5]"""
        if s is None:
            self.check_error(parts_of, (houses, lots), (Refused, "reason", ("free", own_free(houses, lots)[0])))
            return
        wanted = least_parts(houses, lots, s)
        if wanted is None:
            self.check_error(parts_of, (houses, lots), (TooMany, "limit", 6))
            return
        parts, most = parts_of(houses, lots)
        self.assertEqual((parts, most), wanted)
        self.assertEqual([type(parts), type(most)] + [type(one) for one in parts], [tuple] + [int] * (houses + 1))
        self.assertIs(is_weights(houses, lots, tuple([pair(Fraction(one, most)) for one in parts])), True)

    def test_parts(self):
        generator = random.Random(65)
        for lots in list(every_lots(4, 6))[::11]:
            self.check_parts(4, lots, self.check_answer(4, lots))
        for houses in (4, 5, 6):
            for many in range(1, 13):
                for _ in range(6):
                    lots = some_lots(generator, houses, many)
                    self.check_parts(houses, lots, self.check_answer(houses, lots))

    def test_parts_known(self):
        two_rings = ((0, 1), (0, 2), (1, 2), (3, 4), (3, 5), (4, 5))
        pairs = tuple(itertools.combinations(range(4), 2))
        self.assertEqual(parts_of(6, two_rings), ((1,) * 6, 2))
        self.assertEqual([weights_answer(4, pairs)[1], parts_of(4, pairs)], [(2, 1), ((1, 1, 1, 1), 2)])
        self.assertEqual(parts_of(4, ((0, 1, 2), (0, 3), (1, 3), (2, 3))), ((1, 1, 1, 2), 3))
        self.assertEqual([parts_of(1, ((0,),)), parts_of(6, ((0, 1, 2, 3, 4, 5),))], [((1,), 1), ((0, 0, 0, 0, 0, 1), 1)])
        self.assertEqual(parts_of(6, tuple([(house,) for house in range(6)])), ((1,) * 6, 1))
        five = ((0, 1), (0, 4), (1, 2), (2, 3), (3, 4))
        self.assertEqual(parts_of(5, five), ((1,) * 5, 2))
        for houses, lots in ((5, WHEEL), (6, WHEEL + ((5,),))):
            self.check_error(parts_of, (houses, lots), (TooMany, "limit", 6))
        for houses, lots, house in ((1, (), 0), (3, ((1,),), 0), (6, ((0, 1), (2, 5)), 3), (2, ((),), 0)):
            self.check_error(parts_of, (houses, lots), (Refused, "reason", ("free", house)))

    def test_not_true(self):
        self.assertEqual(weights_answer(3, RING)[1], (3, 2))
        self.assertEqual(parts_of(4, tuple(itertools.combinations(range(4), 2)))[1], 2)


class TestCalls(Errors):
    def test_equal_calls(self):
        generator = random.Random(66)
        some = [(6, some_lots(generator, 6, many)) for many in range(13)]
        self.check_twice(weights_answer, some)
        self.check_twice(parts_of, [(3, RING), (4, PATH)])
        for function in (is_weights, is_cover, lot_sums_of):
            self.check_twice(function, [(3, RING, HALVES)])
        self.check_twice(is_weights_answer, [(3, RING, ("weights", (3, 2), HALVES, HALVES))])
        self.check_twice(sum_of, [(HALVES,)])


if __name__ == "__main__":
    unittest.main()
