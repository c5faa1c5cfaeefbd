"""Stage 18: the scheme for any lots."""

import itertools
import random
import unittest
from fractions import Fraction

from fetchunseen.base.fields import next_prime
from fetchunseen.bound.least import least_mean, scale
from fetchunseen.lots.lots import all_lots, exchanged_lots, greatest_lots, lone_lots, spread_lots
from fetchunseen.lots.weights import is_weights_answer, parts_of, weights_answer
from fetchunseen.make.lone import lone_scheme
from fetchunseen.make.lots import is_least, is_least_answer, joined_houses, least_answer, lots_scheme
from fetchunseen.make.sums import sums_scheme
from fetchunseen.scheme.right import wrong_coins
from fetchunseen.scheme.schemes import Scheme, all_scheme, exchanged_books, exchanged_houses, mean, open_scheme, together
from fetchunseen.scheme.sight import is_unseen
from tests.shapes import LONE, MIX, PAIR, TORN, all_coins, bent, every_lot, is_wrong_by_trying, own_mean, own_sums, pair, six, some_scheme
from tests.support import Errors, FAR, KINDS, LOTS, OPERATION, PRIMES, SCHEME, beyond, number, objects, others_than, refused, too_many
from tests.test_chain import sums_of_two, unlike_times
from tests.test_lots import every_lots, no_lots, own_free, some_lots, thirteen
from tests.test_sight import is_exactly, own_sees
from tests.test_sums import are_relations_alike, is_right_by_ranks
from tests.test_weights import RING, WHEEL

PRIME = (number, PRIMES)
HOUSES = (number, beyond(7) + [0])
BOOKS = (number, beyond(5) + [0])
NO_SCHEME = (SCHEME, others_than(Scheme) + [six(PAIR), PAIR.wishes])
SQUARE = ((0, 1), (0, 3), (1, 2), (2, 3))


def antichains(houses):
    """All lots of which none is within another one."""
    found = [()]
    for lot in every_lot(houses):
        found += [lots + (lot,) for lots in found if not any(set(lot) <= set(one) or set(one) <= set(lot) for one in lots)]
    return [tuple(sorted(lots)) for lots in found]


def own_least(houses, lots, books):
    """The least mean for one letter, by the scale."""
    s = scale(houses, lots)
    return Fraction(1) if s is None else sum([Fraction(s[1], s[0]) ** at for at in range(books)])


def own_is_least(scheme, lots):
    """By trying all libraries, and all relations; for small schemes."""
    if any([is_wrong_by_trying(scheme, *coin) for coin in all_coins(scheme)]) or any([own_sees(scheme, lot) for lot in lots]):
        return False
    wanted = scheme.length * own_least(scheme.houses, lots, scheme.books)
    return all([own_mean(scheme, wish) == wanted for wish in range(scheme.books)])


class TestJoined(Errors):
    """[18.1]"""

    def check_joined(self, scheme, parts):
        made = joined_houses(scheme, parts)
        self.assertEqual(six(made)[:5], (scheme.prime, len(parts), scheme.books, scheme.length, scheme.is_mixed))
        firsts = [sum(parts[:house]) for house in range(len(parts))]
        small = [tuple(range(first, first + many)) for first, many in zip(firsts, parts)]
        for wish, coin in all_coins(scheme):
            self.assertEqual(made.wishes[wish][coin][0], scheme.wishes[wish][coin][0])
            for house, lot in enumerate(small):
                self.assertEqual(made.wishes[wish][coin][1][house], own_sums(scheme, wish, coin, lot))
        self.assertEqual(wrong_coins(made), wrong_coins(scheme))
        self.assertEqual([mean(made, wish) for wish in range(made.books)], [mean(scheme, wish) for wish in range(made.books)])
        for lot in every_lot(len(parts)):
            spread = tuple([at for house in lot for at in small[house]])
            if is_unseen(scheme, (spread,)):
                self.assertIs(is_unseen(made, (lot,)), True)
        return made

    def test_some(self):
        generator = random.Random(180)
        schemes = [LONE, PAIR, MIX, TORN, sums_of_two(), lone_scheme(2, 4, 2), lone_scheme(3, 3, 3), sums_scheme(11, 3, 2, 2)]
        for _ in range(40):
            shape = generator.choice([(2, 2, 2, 1), (3, 4, 2, 2), (2, 6, 1, 3), (5, 5, 3, 1)])
            schemes.append(some_scheme(generator, *shape, generator.randrange(2) == 1))
        for scheme in schemes:
            every = [parts for many in range(1, 5) for parts in itertools.product(range(7), repeat=many) if sum(parts) == scheme.houses]
            for parts in generator.sample(every, min(12, len(every))) + [(scheme.houses,), (1,) * scheme.houses]:
                self.check_joined(scheme, parts)
            self.assertEqual(joined_houses(scheme, (1,) * scheme.houses), scheme)

    def test_edges(self):
        scheme = sums_scheme(37, 6, 4, 2)
        for parts in ((6,), (1,) * 6, (0, 0, 6, 0, 0, 0), (3, 0, 0, 0, 0, 3), (0, 6), (2, 2, 2)):
            made = self.check_joined(scheme, parts)
            for house, many in enumerate(parts):
                if many == 0:
                    self.assertEqual(own_sums(made, 0, 0, (house,)), ())

    def test_errors(self):
        parts = KINDS + FAR + [
            2, (), (1,), (3,), (2, 1), (1, 1, 1), (-1, 3), (3, -1), (True, 1), (1, True), (2, False), [1, 1], (1, None), ("1", 1), ((1,), 1),
            (0,) * 6, (0, 0, 0, 0, 0, 0, 2), (1, 10 ** 60), (1, 10 ** 99), (7, -5), {1: 1}, (2, 0, 0, 0, 0, 0, 0), (1, 1, []),
        ]
        self.check_arguments(joined_houses, (LONE, (1, 1)), [NO_SCHEME, (OPERATION, parts)])
        self.assertEqual(joined_houses(LONE, (0, 0, 2, 0, 0, 0)).houses, 6)


class TestMet(Errors):
    """[18.2], [18.3]"""

    def check_made(self, prime, houses, lots, books):
        scheme = lots_scheme(prime, houses, lots, books)
        free = own_free(houses, lots)
        length = 1 if free else sum(parts_of(houses, lots)[0]) ** books
        self.assertEqual(six(scheme)[:4], (prime, houses, books, length))
        self.assertEqual([[times for times, _ in coins] for coins in scheme.wishes], [[1]] * books)
        for wish in range(books):
            self.assertIs(is_right_by_ranks(scheme, wish), True)
            self.assertEqual(own_mean(scheme, wish), length * own_least(houses, lots, books))
            self.assertEqual(mean(scheme, wish), least_mean(houses, lots, books, length))
        self.assertIs(is_least(scheme, lots), True)
        for lot in greatest_lots(houses, lots):
            for wish in range(1, books):
                if scheme.is_mixed:
                    self.assertIs(are_relations_alike(scheme, lot, 0, wish), True)
                else:
                    self.assertEqual([scheme.wishes[wish][0][1][house] for house in lot], [scheme.wishes[0][0][1][house] for house in lot])
        return scheme

    def check_lots(self, houses, lots, books):
        """What the section promises of these: a scheme, or why there is none."""
        free = own_free(houses, lots)
        if not free:
            many = sum(parts_of(houses, lots)[0])
            if books * many ** books > 100:
                self.check_error(lots_scheme, (9973, houses, lots, books), too_many(100))
                self.check_error(lots_scheme, (2, houses, lots, books), too_many(100))
                return 0
            prime = next_prime(many ** books + 1)
            for less in (2, next_prime(many ** books // 2 + 1)):
                if less <= many ** books:
                    self.check_error(lots_scheme, (less, houses, lots, books), refused("prime", many ** books))
        self.check_made(2 if free else prime, houses, lots, books)
        return 1

    def test_up_to_three_houses(self):
        made = 0
        for houses in (1, 2, 3):
            for lots in every_lots(houses):
                for books in (1, 2, 3, 4) if houses < 3 else (1, 2, 3):
                    made += self.check_lots(houses, lots, books)
        self.assertGreater(made, 800)

    def test_four_houses(self):
        """All greatest lots, and some lots with others within them."""
        every = antichains(4)
        self.assertEqual(len(every), 168)
        generator = random.Random(181)
        for lots in every:
            for books in (1, 2, 3, 4):
                self.check_lots(4, lots, books)
            inner = [lot for lot in every_lot(4) if lot not in lots and any(set(lot) <= set(one) for one in lots)]
            more = tuple(sorted(lots + tuple(generator.sample(inner, min(len(inner), 12 - len(lots), 3)))))
            self.check_lots(4, more, 2)

    def test_more_houses(self):
        generator = random.Random(182)
        for houses, many in itertools.product((5, 6), range(1, 13)):
            for _ in range(4):
                lots = some_lots(generator, houses, many)
                if own_free(houses, lots):
                    self.check_made(2, houses, lots, 4)
                    continue
                s = Fraction(*scale(houses, lots))
                try:
                    parts_of(houses, lots)
                except OverflowError:
                    self.check_error(lots_scheme, (2, houses, lots, 4), too_many(6))
                    continue
                self.assertLessEqual(s, 6)
                self.check_lots(houses, lots, generator.choice([1, 2]))

    def test_known(self):
        for houses in range(1, 7):
            every = (tuple(range(houses)),)
            for books in range(1, 5):
                scheme = self.check_made(2, houses, every, books)
                self.assertEqual((scheme.length, len(own_sums(scheme, 0, 0))), (1, books))
            self.check_made(next_prime(houses ** 2 + 1), houses, lone_lots(houses), 2)
        two_rings = ((0, 1), (0, 2), (1, 2), (3, 4), (3, 5), (4, 5))
        self.assertEqual(self.check_made(37, 6, two_rings, 2).length, 36)
        self.assertEqual(self.check_made(9973, 6, all_lots(6, 5), 2).length, 36)
        twelve = tuple(sorted(list(all_lots(6, 5)) + [(house, 5) for house in range(5)] + [()]))
        self.assertEqual(len(twelve), 12)
        self.assertEqual(self.check_made(9973, 6, twelve, 2).length, 36)
        for books in (1, 2, 3, 4):
            self.check_error(lots_scheme, (9973, 5, WHEEL, books), too_many(6))

    def test_errors(self):
        lots = (LOTS, no_lots(3) + [thirteen()])
        wrong = [PRIME, HOUSES, lots, BOOKS]
        self.check_arguments(lots_scheme, (11, 3, RING, 2), wrong)
        self.check_arguments(least_answer, (11, 3, RING, 2), wrong)
        self.check_arguments(is_least_answer, (11, 3, RING, 2, None), wrong + [None])
        for function in (lots_scheme, least_answer):
            self.check_error(function, (2, 5, WHEEL, 4), too_many(6))
            self.check_error(function, (2, 3, RING, 4), too_many(100))
            self.check_error(function, (2, 3, RING, 2), refused("prime", 9))
            self.check_error(function, (7, 3, RING, 2), refused("prime", 9))
            self.check_error(function, (2, 2, lone_lots(2), 4), refused("prime", 16))
            self.check_error(function, (2, 5, WHEEL, 5), number(5))
        self.assertIs(is_least_answer(2, 5, WHEEL, 4, None), False)


class TestLeast(Errors):
    """[18.4]"""

    def test_known(self):
        for houses, books in ((2, 1), (2, 2), (2, 3), (2, 4), (3, 2), (3, 3), (4, 2), (5, 2), (6, 2), (4, 3)):
            scheme = lone_scheme(3, houses, books)
            self.assertIs(is_least(scheme, lone_lots(houses)), True)
            self.assertIs(is_least(scheme, lone_lots(houses) + ((),)[:0]), True)
            self.assertIs(is_least(scheme, ((),) + lone_lots(houses)), True)
            self.assertIs(is_least(scheme, (tuple(range(houses)),)), books == 1)
        for houses in (1, 2, 3, 6):
            for house, books in itertools.product(range(houses), (1, 2, 4)):
                scheme = open_scheme(5, houses, books, 3, house)
                others = tuple([(other,) for other in range(houses) if other != house])
                self.assertIs(is_least(scheme, others), True)
                self.assertIs(is_least(scheme, lone_lots(houses)), books == 1)
                self.assertIs(is_least(all_scheme(5, houses, books, 3, house), (tuple(range(houses)),)), True)
                self.assertIs(is_least(all_scheme(5, houses, books, 3, house), others), books == 1)

    def test_together(self):
        both = together(lone_scheme(2, 2, 2), lone_scheme(2, 2, 2))
        self.assertIs(is_least(both, lone_lots(2)), True)
        self.assertIs(is_least(together(both, all_scheme(2, 2, 2, 1, 0)), lone_lots(2)), False)
        three = together(lone_scheme(5, 3, 2), lone_scheme(5, 3, 2))
        self.assertIs(is_least(three, lone_lots(3)), True)
        opened = together(open_scheme(5, 3, 2, 4, 1), open_scheme(5, 3, 2, 1, 2))
        self.assertIs(is_least(opened, ((0,),)), True)
        self.assertIs(is_least(opened, ((0,), (1,))), False)
        self.assertIs(is_least(together(open_scheme(5, 3, 2, 4, 1), all_scheme(5, 3, 2, 1, 1)), ((0,),)), False)

    def test_some(self):
        generator = random.Random(183)
        told = []
        schemes = [LONE, PAIR, MIX, unlike_times(), lone_scheme(2, 3, 2), lone_scheme(2, 2, 3), open_scheme(2, 2, 2, 1, 0), all_scheme(2, 3, 2, 1, 1)]
        schemes += [joined_houses(lone_scheme(2, 3, 2), parts) for parts in ((1, 2), (0, 1, 2), (3,))]
        for _ in range(200):
            schemes.append(some_scheme(generator, *generator.choice([(2, 2, 2, 1), (3, 2, 2, 1), (2, 3, 2, 1)]), generator.randrange(2) == 1))
        for scheme in schemes:
            for lots in [(), ((),), lone_lots(scheme.houses), (tuple(range(scheme.houses)),)] + [some_lots(generator, scheme.houses, 2) for _ in range(2)]:
                told.append(own_is_least(scheme, lots))
                self.assertIs(is_least(scheme, lots), told[-1])
        self.assertGreater(min(told.count(True), told.count(False)), 8)

    def test_errors(self):
        self.check_arguments(is_least, (LONE, lone_lots(2)), [NO_SCHEME, (LOTS, no_lots(2) + [thirteen()])])
        self.check_error(is_least, (TORN, ((0,), (3,))), LOTS(None))


class TestAnswers(Errors):
    def own_judge(self, prime, houses, lots, books, value):
        if type(value) is not tuple or len(value) != 3 or not isinstance(value[2], Scheme):
            return False
        if not is_exactly(value[0], pair(own_least(houses, lots, books))):
            return False
        if not is_weights_answer(houses, lots, value[1]):
            return False
        scheme = value[2]
        return (scheme.prime, scheme.houses, scheme.books) == (prime, houses, books) and own_is_least(scheme, lots)

    def test_made(self):
        for houses, lots, books in ((1, ((0,),), 4), (2, lone_lots(2), 2), (3, RING, 2), (4, SQUARE, 2), (3, ((0, 1),), 4), (2, ((0, 1),), 3)):
            many = 1 if own_free(houses, lots) else sum(parts_of(houses, lots)[0]) ** books
            prime = next_prime(many + 1)
            told = least_answer(prime, houses, lots, books)
            self.assertEqual(told[0], pair(own_least(houses, lots, books)))
            self.assertEqual(told[0], least_mean(houses, lots, books, 1))
            self.assertEqual(told[1:], (weights_answer(houses, lots), lots_scheme(prime, houses, lots, books)))
            self.assertIs(is_least_answer(prime, houses, lots, books, told), True)

    def test_any_length(self):
        """Without a bound for lengths, and where nothing can be made."""
        good = weights_answer(2, lone_lots(2))
        schemes = [LONE, together(LONE, LONE), unlike_times(), exchanged_books(LONE, (1, 0)), exchanged_houses(LONE, (1, 0))]
        for scheme in schemes:
            self.assertIs(is_least_answer(2, 2, lone_lots(2), 2, ((3, 2), good, scheme)), True)
        self.check_error(least_answer, (2, 2, lone_lots(2), 2), refused("prime", 4))
        self.assertIs(is_least_answer(5, 2, lone_lots(2), 2, ((3, 2), good, sums_of_two())), True)
        self.assertIs(is_least_answer(5, 2, lone_lots(2), 2, ((3, 2), good, LONE)), False)
        for length in (1, 7, 25):
            for house in (1, 2):
                value = ((1, 1), ("free", 3 - house), open_scheme(2, 3, 4, length, house))
                self.assertIs(is_least_answer(2, 3, ((0,),), 4, value), True)
        everyone = ((0, 1, 2),)
        value = ((4, 1), weights_answer(3, everyone), all_scheme(2, 3, 4, 25, 1))
        self.assertIs(is_least_answer(2, 3, everyone, 4, value), True)

    def test_other_weights(self):
        half, one, none = (1, 2), (1, 1), (0, 1)
        scheme = lots_scheme(5, 4, SQUARE, 2)
        for weights, cover in (((one, none, one, none), (one, none, none, one)), ((half,) * 4, (half,) * 4), ((half,) * 4, (none, one, one, none))):
            value = ((3, 2), ("weights", (2, 1), weights, cover), scheme)
            self.assertIs(is_least_answer(5, 4, SQUARE, 2, value), True)
            self.assertIs(is_least_answer(5, 4, SQUARE, 2, (value[0], ("weights", (2, 1), weights, cover[:3]), scheme)), False)
            self.assertIs(is_least_answer(5, 4, SQUARE, 2, (value[0], ("weights", (2, 1), weights, (half,) * 3 + (one,)), scheme)), False)

    def test_bent_values(self):
        for shape, value in (((2, 2, lone_lots(2), 2), ((3, 2), weights_answer(2, lone_lots(2)), LONE)),
                             ((2, 3, ((0,),), 2), least_answer(2, 3, ((0,),), 2)), ((2, 2, ((0, 1),), 2), least_answer(2, 2, ((0, 1),), 2))):
            values = [
                None, True, False, 0, 1, 2, (1, 1), (2, 1), (3, 2), (1, True), (True, 1), [3, 2], "free", "weights", ("free", 0), ("free", 1), ("free", 2),
                ("free", True), (), ((1, 1), (1, 1)), ((1, 2), (1, 2)), LONE, PAIR, MIX, open_scheme(2, 3, 2, 1, 0), open_scheme(2, 3, 2, 5, 2),
                all_scheme(2, 2, 2, 1, 0), all_scheme(2, 2, 2, 3, 1), all_scheme(3, 2, 2, 1, 0), Scheme(*bent(LONE, is_mixed=True)), 10 ** 60, *objects(),
            ]
            taken = self.check_bent(is_least_answer, shape, self.own_judge, value, values)
            self.assertGreater(taken, 0)

    def test_values_of_every_kind(self):
        good = ((3, 2), weights_answer(2, lone_lots(2)), LONE)
        self.check_accepts(is_least_answer, (2, 2, lone_lots(2), 2), KINDS + FAR + [
            (), good[:2], good + ((),), list(good), good[::-1], (good[0], good[2], good[1]), ((6, 4),) + good[1:], ((3, 1),) + good[1:],
            (good[0], good[1], six(LONE)), (good[0], good[1], PAIR), LONE, good[1], (good[0], ("free", 0), LONE), ((True, True),) + good[1:],
            (good[0], good[1], lone_scheme(3, 2, 2)), (good[0], good[1], lone_scheme(2, 2, 3)), (good[0], good[1], lone_scheme(2, 3, 2)),
        ])
        self.assertIs(is_least_answer(2, 2, lone_lots(2), 2, good), True)


class TestCalls(Errors):
    def test_great(self):
        scheme = self.check_within(3, lots_scheme, 9973, 6, all_lots(6, 5), 2)
        self.assertIs(self.check_within(5, is_least, scheme, all_lots(6, 5)), True)
        six_ring = ((0, 1, 2, 3), (0, 1, 4, 5), (2, 3, 4, 5))
        value = self.check_within(3, least_answer, 29, 6, six_ring, 3)
        self.assertIs(self.check_within(5, is_least_answer, 29, 6, six_ring, 3, value), True)
        self.assertIs(self.check_within(5, is_least, all_scheme(9973, 6, 4, 25, 5), (tuple(range(6)),)), True)

    def test_equal_calls(self):
        self.check_twice(joined_houses, [(sums_scheme(11, 3, 2, 2), (1, 0, 2)), (LONE, (2,))])
        self.check_twice(lots_scheme, [(11, 3, RING, 2), (2, 2, ((0,),), 3)])
        self.check_twice(is_least, [(LONE, lone_lots(2)), (PAIR, lone_lots(2))])
        self.check_twice(least_answer, [(11, 3, RING, 2), (2, 2, ((0,),), 3)])
        self.check_twice(is_least_answer, [(11, 3, RING, 2, least_answer(11, 3, RING, 2)), (11, 3, RING, 2, None)])

    def test_exchanged(self):
        """[5.4], [5.5], [8.3]: orders and spreading keep what is least."""
        generator = random.Random(184)
        for houses, lots in ((3, RING), (4, SQUARE), (4, ((0, 1, 2), (0, 3), (1, 3), (2, 3))), (3, ((0, 1), (2,)))):
            parts, most = parts_of(houses, lots)
            small = sum(parts)
            self.assertIs(all([len(lot) <= most for lot in spread_lots(houses, lots, parts)]), True)
            made = sums_scheme(next_prime(small ** 2 + 1), small, most, 2)
            self.assertIs(is_unseen(made, spread_lots(houses, lots, parts)), True)
            self.assertIs(is_least(joined_houses(made, parts), lots), True)
            order = tuple(generator.sample(range(houses), houses))
            turned = exchanged_houses(joined_houses(made, parts), order)
            self.assertIs(is_least(turned, exchanged_lots(houses, lots, order)), True)
            self.assertIs(is_least(exchanged_books(turned, (1, 0)), exchanged_lots(houses, lots, order)), True)

    def test_not_true(self):
        """[18.5]"""
        lots = ((0, 1), (2,))
        parts, _ = parts_of(3, lots)
        other = joined_houses(lone_scheme(2, 2, 2), (1, 0, 1))
        self.assertEqual(parts, (0, 1, 1))
        self.assertIs(is_least(other, lots), True)
        self.assertEqual(own_sums(other, 0, 1, (1,)), ())
        swapped = Scheme(2, 2, 2, 1, False, (((1, (((1, 0),), ((0, 1),))),), ((1, (((0, 1),), ((1, 0),))),)))
        self.assertEqual([is_unseen(swapped, ((0,),)), is_unseen(joined_houses(all_scheme(2, 2, 2, 1, 0), (2,)), ((0,),))], [False, True])
        three = lone_scheme(2, 2, 2)
        self.assertEqual([is_least(three, lone_lots(2)), is_least(three, ((0,),))], [True, False])
        self.assertEqual([is_least(all_scheme(2, 2, 2, 1, 0), lone_lots(2)), is_unseen(all_scheme(2, 2, 2, 1, 0), lone_lots(2))], [False, True])


if __name__ == "__main__":
    unittest.main()
