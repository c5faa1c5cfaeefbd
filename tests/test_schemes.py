"""Stage 8: sums, means, exchanged schemes, and schemes together."""

import itertools
import random
import unittest
from fractions import Fraction

from fetchunseen.lots.lots import exchanged_lots
from fetchunseen.scheme import schemes as module
from fetchunseen.scheme.right import is_right, wrong_coins
from fetchunseen.scheme.schemes import Scheme, all_scheme, exchanged_books, exchanged_houses, lot_sums, mean, open_scheme
from fetchunseen.scheme.schemes import sums_of, together
from fetchunseen.scheme.sight import greatest_unseen, is_unseen
from tests.shapes import LONE, MIX, MIXED, PAIR, TORN, all_coins, bent, book_at, every_lot, great_scheme, own_mean, own_sums
from tests.shapes import pair, six, some_scheme
from tests.support import Errors, FAR, KINDS, NUMBERS, OPERATION, PRIMES, SCHEME, LOTS, beyond, no_lot, no_order, number
from tests.support import others_than, shown, too_many

GIVEN = [PAIR, LONE, MIXED, MIX, TORN]
NO_SCHEME = (SCHEME, others_than(Scheme) + [six(PAIR), PAIR.wishes])


def some_schemes(seed, many, most_length=3, kinds=(False, True)):
    generator = random.Random(seed)
    made = []
    for _ in range(many):
        prime, houses, books = generator.choice([2, 3, 5, 9973]), generator.randrange(1, 7), generator.randrange(1, 5)
        made.append(some_scheme(generator, prime, houses, books, generator.randrange(1, most_length + 1), generator.choice(kinds)))
    return made


def great_ones():
    generator = random.Random(82)
    shapes = [(1, 100, 6), (4, 25, 6), (2, 50, 1), (4, 25, 1)]
    return [great_scheme(generator, 9973, books, length, books > 1, houses) for books, length, houses in shapes]


class TestSums(Errors):
    def test_constants(self):
        self.assertEqual([module.MOST_COINS, module.MOST_SUMS, module.MOST_ASKED], [64, 100, 400])

    def test_sums(self):
        for scheme in GIVEN + some_schemes(83, 60) + great_ones():
            for wish, coin in all_coins(scheme):
                wanted = tuple([row for sums in scheme.wishes[wish][coin][1] for row in sums])
                self.assertEqual(sums_of(scheme, wish, coin), wanted)
                for lot in every_lot(scheme.houses):
                    self.assertEqual(lot_sums(scheme, wish, coin, lot), own_sums(scheme, wish, coin, lot))
                self.assertEqual(lot_sums(scheme, wish, coin, tuple(range(scheme.houses))), wanted)

    def test_means(self):
        """[8.2]"""
        for scheme in GIVEN + some_schemes(84, 300) + great_ones():
            for wish in range(scheme.books):
                self.assertEqual(mean(scheme, wish), pair(own_mean(scheme, wish)))
        none = Scheme(2, 1, 1, 1, True, (((10 ** 9, ((),)),) * 64,))
        self.assertEqual(mean(none, 0), (0, 1))
        far = Scheme(2, 1, 1, 1, True, (((10 ** 9, ((),)),) * 60 + ((1, (((1,),) * 100,)),),))
        self.assertEqual(mean(far, 0), (100, 60 * 10 ** 9 + 1))

    def test_equal_means(self):
        """[8.2], last"""
        compared = 0
        for scheme in GIVEN + some_schemes(85, 400):
            if {house for lot in greatest_unseen(scheme) for house in lot} == set(range(scheme.houses)):
                self.assertEqual(len({mean(scheme, wish) for wish in range(scheme.books)}), 1)
                compared += scheme.books > 1
        self.assertGreater(compared, 10)

    def test_open_and_all(self):
        for prime in (2, 5, 9973):
            for houses, books, length in [(1, 1, 1), (3, 2, 4), (6, 4, 25), (2, 1, 100), (6, 3, 33), (2, 4, 1), (1, 2, 50)]:
                for house in range(houses):
                    self.check_asking(prime, houses, books, length, house)

    def check_asking(self, prime, houses, books, length, house):
        units = [tuple([int(at == one) for at in range(books * length)]) for one in range(books * length)]
        for function in (open_scheme, all_scheme):
            made = function(prime, houses, books, length, house)
            self.assertEqual(six(made)[:5], (prime, houses, books, length, False))
            for wish in range(books):
                sums = tuple(units if function is all_scheme else book_at(length, units, wish))
                asks = tuple([sums if at == house else () for at in range(houses)])
                self.assertEqual(made.wishes[wish], ((1, asks),))
                self.assertEqual(mean(made, wish), (len(sums), 1))


class TestExchanged(Errors):
    """[8.3]"""

    def own_houses(self, scheme, order):
        wishes = []
        for coins in scheme.wishes:
            made = []
            for times, asks in coins:
                moved = [None] * scheme.houses
                for house in range(scheme.houses):
                    moved[order[house]] = asks[house]
                made.append((times, tuple(moved)))
            wishes.append(tuple(made))
        return Scheme(*bent(scheme, wishes=tuple(wishes)))

    def own_books(self, scheme, order):
        wishes = [None] * scheme.books
        back = [order.index(book) for book in range(scheme.books)]
        for wish, coins in enumerate(scheme.wishes):
            made = []
            for times, asks in coins:
                made.append((times, tuple([tuple([self.own_row(scheme, row, back) for row in sums]) for sums in asks])))
            wishes[order[wish]] = tuple(made)
        return Scheme(*bent(scheme, wishes=tuple(wishes)))

    def own_row(self, scheme, row, back):
        return tuple([letter for book in back for letter in book_at(scheme.length, row, book)])

    def test_exchanged(self):
        generator = random.Random(86)
        for scheme in GIVEN + some_schemes(87, 80):
            before = shown(scheme)
            for order in self.orders(generator, scheme.houses):
                made = exchanged_houses(scheme, order)
                self.assertEqual(shown(made), shown(self.own_houses(scheme, order)))
                self.assertEqual(wrong_coins(made), wrong_coins(scheme))
                lots = [tuple(sorted([order[house] for house in lot])) for lot in greatest_unseen(scheme)]
                self.assertEqual(greatest_unseen(made), tuple(sorted(lots)))
                self.assertEqual([mean(made, wish) for wish in range(made.books)], [mean(scheme, wish) for wish in range(made.books)])
            for order in self.orders(generator, scheme.books):
                made = exchanged_books(scheme, order)
                self.assertEqual(shown(made), shown(self.own_books(scheme, order)))
                self.assertEqual(is_right(made), is_right(scheme))
                self.assertEqual(greatest_unseen(made), greatest_unseen(scheme))
                self.assertEqual([mean(made, order[wish]) for wish in range(made.books)], [mean(scheme, wish) for wish in range(made.books)])
            self.assertEqual(shown(scheme), before)

    def orders(self, generator, many):
        if many < 4:
            return list(itertools.permutations(range(many)))
        return [tuple(generator.sample(range(many), many)) for _ in range(3)]

    def test_lots(self):
        lots = ((0,), (1,))
        for scheme in (LONE, MIX):
            for order in ((0, 1), (1, 0)):
                self.assertIs(is_unseen(exchanged_houses(scheme, order), exchanged_lots(2, lots, order)), True)

    def test_great(self):
        for scheme in great_ones():
            order = tuple(range(scheme.houses))[::-1]
            self.assertEqual(exchanged_houses(scheme, order), self.own_houses(scheme, order))
            self.assertEqual(exchanged_houses(exchanged_houses(scheme, order), order), scheme)
            order = tuple(range(scheme.books))[::-1]
            self.assertEqual(exchanged_books(scheme, order), self.own_books(scheme, order))
            self.assertEqual(exchanged_books(exchanged_books(scheme, order), order), scheme)


def flat(length, coins, times, sums, books=1, prime=2, houses=1, is_mixed=False):
    """A scheme all of whose coins are alike: so many sums of zeros."""
    asks = (((0,) * (books * length),) * sums,) + ((),) * (houses - 1)
    return Scheme(prime, houses, books, length, is_mixed, (((times, asks),) * coins,) * books)


class TestTogether(Errors):
    """[8.4]"""

    def own_row(self, books, one, other):
        lengths = len(one) // books, len(other) // books
        made = [book_at(lengths[0], one, book) + book_at(lengths[1], other, book) for book in range(books)]
        return tuple([letter for letters in made for letter in letters])

    def own_together(self, one, other):
        wishes = []
        for coins, more in zip(one.wishes, other.wishes):
            made = []
            for (times, asks), (others, later) in itertools.product(coins, more):
                both = []
                for sums, behind in zip(asks, later):
                    rows = [self.own_row(one.books, row, (0,) * other.width) for row in sums]
                    both.append(tuple(rows + [self.own_row(one.books, (0,) * one.width, row) for row in behind]))
                made.append((times * others, tuple(both)))
            wishes.append(tuple(made))
        return Scheme(*bent(one, length=one.length + other.length, wishes=tuple(wishes)))

    def check(self, one, other):
        before = shown((one, other))
        made = together(one, other)
        self.assertEqual(shown(made), shown(self.own_together(one, other)))
        self.assertEqual(shown((one, other)), before)
        for wish in range(one.books):
            both = Fraction(*mean(one, wish)) + Fraction(*mean(other, wish))
            self.assertEqual(mean(made, wish), pair(both))
        if is_right(one) and is_right(other):
            self.assertIs(is_right(made), True)
        for lot in every_lot(one.houses):
            if is_unseen(one, (lot,)) and is_unseen(other, (lot,)):
                self.assertIs(is_unseen(made, (lot,)), True)
        return made

    def plain_ones(self, seed, many):
        generator = random.Random(seed)
        for _ in range(many):
            prime, houses, books = generator.choice([2, 3, 9973]), generator.randrange(1, 4), generator.randrange(1, 4)
            both = []
            for _ in range(2):
                scheme = some_scheme(generator, prime, houses, books, generator.randrange(1, 4), False)
                wishes = tuple([tuple([(min(times, 30), asks) for times, asks in coins]) for coins in scheme.wishes])
                both.append(Scheme(*bent(scheme, wishes=wishes)))
            yield both

    def test_some(self):
        opened = [open_scheme(2, 2, 2, length, house) for length in (1, 3) for house in (0, 1)]
        opened += [all_scheme(2, 2, 2, 1, 0), PAIR, LONE]
        for one, other in itertools.product(opened, repeat=2):
            made = self.check(one, other)
            self.assertIs(is_right(made), True)
        for one, other in self.plain_ones(88, 150):
            self.check(one, other)

    def test_greatest(self):
        for one, other in ((flat(50, 8, 1, 3), flat(50, 8, 10 ** 9, 3)), (flat(1, 1, 10 ** 5, 50), flat(99, 1, 10 ** 4, 50)),
                           (flat(1, 2, 1, 100), flat(1, 2, 1, 0)), (flat(12, 1, 1, 50, 4), flat(13, 1, 1, 50, 4)),
                           (open_scheme(9973, 6, 4, 12, 5), open_scheme(9973, 6, 4, 13, 0))):
            self.assertEqual(together(one, other), self.own_together(one, other))

    def test_unlike(self):
        good = flat(1, 2, 1, 1, books=2)
        for other in (flat(1, 2, 1, 1, books=2, is_mixed=True), flat(1, 2, 1, 1, books=2, prime=3), flat(1, 2, 1, 1, books=1),
                      flat(1, 2, 1, 1, books=2, houses=2), flat(1, 2, 1, 1, prime=3, houses=2, is_mixed=True)):
            self.check_error(together, (good, other), OPERATION(None))
            self.check_error(together, (other, good), OPERATION(None))
        # Ahead of all that is too many.
        for great in (flat(50, 8, 10 ** 6, 6, books=2, prime=3), flat(50, 8, 10 ** 6, 6, books=2, is_mixed=True)):
            self.check_error(together, (flat(50, 9, 10 ** 6, 2, books=2), great), OPERATION(None))
            self.check_error(together, (great, flat(50, 9, 10 ** 6, 2, books=2)), OPERATION(None))
        mixed = flat(1, 1, 1, 1, is_mixed=True)
        self.check_error(together, (mixed, mixed), OPERATION(None))

    def test_too_many(self):
        limits = [100, 64, 100, 10 ** 9, 400]
        reasons = set()
        for length, (coins, more), (sums, later), times in itertools.product(
                (1, 51), ((9, 8), (8, 8), (4, 1), (2, 2), (3, 22), (2, 1)),
                ((51, 50), (5, 2), (40, 40), (4, 5), (3, 3), (1, 1), (99, 2), (100, 1)), (1, 10 ** 5)):
            if coins * sums > 400 or more * later > 400:
                continue
            one, other = flat(length, coins, times, sums), flat(50, more, 10 ** 4 + 1, later)
            too = [length + 50 > 100, coins * more > 64, sums + later > 100, times * (10 ** 4 + 1) > 10 ** 9,
                   coins * more * (sums + later) > 400]
            reasons.update(itertools.combinations([at for at in range(5) if too[at]], 2))
            reasons.update([(at,) for at in range(5) if too[at] and sum(too) == 1])
            if any(too):
                limit = limits[too.index(True)]
                self.check_error(together, (one, other), too_many(limit))
                self.check_error(together, (other, one), too_many(limit))
            else:
                self.assertEqual(together(one, other), self.own_together(one, other))
        self.assertEqual(len(reasons), 15)

    def test_too_many_in_one_wish(self):
        """Each reason is looked for in all wishes ahead of the next one."""
        zero, times = ((0, 0),), 10 ** 5
        some = (times, (zero * 51,))
        one = Scheme(2, 1, 2, 1, False, ((some,), ((1, (zero,)),) * 9))
        self.check_error(together, (one, Scheme(2, 1, 2, 1, False, ((some,), ((1, ((),)),) * 8))), too_many(64))
        self.check_error(together, (one, Scheme(2, 1, 2, 1, False, ((some,), ((1, ((),)),) * 7))), too_many(100))
        less = Scheme(2, 1, 2, 1, False, (((times, (zero * 49,)),), ((1, (zero,)),) * 7))
        self.check_error(together, (one, less), too_many(10 ** 9))
        late = Scheme(2, 1, 2, 1, False, (((1, ((),)),), ((1, (zero * 6,)),) * 7))
        self.check_error(together, (one, late), too_many(400))

    def test_no_schemes(self):
        self.check_arguments(together, (PAIR, LONE), [NO_SCHEME, NO_SCHEME])
        self.check_error(together, (MIXED, 3), SCHEME(None))
        self.check_error(together, (flat(51, 9, 10 ** 6, 2), None), SCHEME(None))


class TestObjects(Errors):
    def test_str(self):
        for scheme in GIVEN + some_schemes(89, 50) + great_ones():
            word = "mixed" if scheme.is_mixed else "plain"
            wanted = f"{word} scheme of {scheme.books} books of {scheme.length} letters at {scheme.houses} houses, modulo {scheme.prime}"
            self.assertEqual(str(scheme), wanted)
        self.assertEqual(str(flat(1, 1, 1, 1)), "plain scheme of 1 books of 1 letters at 1 houses, modulo 2")

    def test_equal(self):
        others = [Scheme(*bent(PAIR, prime=3)), Scheme(*bent(PAIR, is_mixed=True)), Scheme(*bent(PAIR, wishes=PAIR.wishes[::-1])),
                  LONE, MIX, flat(1, 1, 1, 0), flat(1, 1, 1, 0, houses=2), flat(2, 1, 1, 0), flat(1, 1, 2, 0), flat(1, 2, 1, 0)]
        for one, other in itertools.product(GIVEN + others, repeat=2):
            self.assertIs(one == other, six(one) == six(other))
            self.assertIs(one != other, six(one) != six(other))
        self.assertIs(PAIR == Scheme(*six(PAIR)), True)
        self.assertIs(PAIR != Scheme(*six(PAIR)), False)
        for value in others_than(Scheme) + [six(PAIR), str(PAIR), PAIR.wishes]:
            self.assertIs(PAIR == value, False)
            self.assertIs(PAIR != value, True)
            self.assertIs(value == PAIR, False)

    def test_iterating(self):
        for act in (iter, list, tuple, lambda one: 1 in one, lambda one: [some for some in one], lambda one: (lambda *_: 1)(*one)):
            with self.assertRaises(TypeError):
                act(PAIR)

    def test_equal_calls(self):
        self.check_twice(Scheme, [six(scheme) for scheme in GIVEN])
        self.check_twice(sums_of, [(PAIR, 1, 1)])
        self.check_twice(lot_sums, [(PAIR, 1, 1, (1,))])
        self.check_twice(mean, [(scheme, 0) for scheme in GIVEN])
        self.check_twice(exchanged_houses, [(PAIR, (1, 0))])
        self.check_twice(exchanged_books, [(LONE, (1, 0))])
        self.check_twice(together, [(PAIR, LONE)])
        for function in (open_scheme, all_scheme):
            self.check_twice(function, [(5, 3, 2, 4, 1)])

    def test_not_true(self):
        """[8.5]"""
        self.assertEqual(LONE.wishes[0][0][1][0], ())
        opened = open_scheme(2, 1, 2, 1, 0)
        self.assertEqual(mean(opened, 0), mean(opened, 1))
        self.assertIs(is_unseen(opened, ((0,),)), False)
        made = together(flat(1, 3, 1, 1), flat(1, 3, 1, 1))
        self.assertEqual(len(made.wishes[0]), 9)


class TestRefused(Errors):
    def test_sums(self):
        wish, coin = (number, beyond(2)), (number, beyond(2))
        self.check_arguments(sums_of, (PAIR, 1, 1), [NO_SCHEME, wish, coin])
        self.check_arguments(lot_sums, (PAIR, 1, 1, (1,)), [NO_SCHEME, wish, coin, (LOTS, no_lot(2))])
        self.check_arguments(mean, (PAIR, 1), [NO_SCHEME, wish])
        # Of each wish its own coins.
        self.assertEqual(len(sums_of(TORN, 0, 1)), 2)
        self.check_error(sums_of, (TORN, 1, 1), number(1))
        self.check_error(lot_sums, (TORN, 1, 1, None), number(1))

    def test_exchanged(self):
        self.check_arguments(exchanged_houses, (TORN, (0, 2, 1)), [NO_SCHEME, (OPERATION, no_order(3))])
        self.check_arguments(exchanged_books, (TORN, (1, 0)), [NO_SCHEME, (OPERATION, no_order(2))])
        self.check_error(exchanged_houses, (TORN, (0, 1)), OPERATION(None))
        self.check_error(exchanged_books, (TORN, (0, 1, 2)), OPERATION(None))

    def test_asking(self):
        houses, books = (number, NUMBERS + [0, 7, 100]), (number, NUMBERS + [0, 5, 100])
        wrong = [(number, PRIMES), houses, books, (number, NUMBERS + [0, 51, 100, 101]), (number, beyond(3))]
        for function in (open_scheme, all_scheme):
            self.check_arguments(function, (5, 3, 2, 4, 1), wrong)
            for many, length in ((1, 101), (2, 51), (3, 34), (4, 26)):
                self.check_error(function, (5, 3, many, length, 1), number(length))
            for value in KINDS + FAR:
                self.check_error(function, (value,) * 5, number(value))


if __name__ == "__main__":
    unittest.main()
