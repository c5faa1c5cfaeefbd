"""What stages 8, 12, 13 and 14 say of the schemes that the package makes."""

import itertools
import random
import unittest
from fractions import Fraction

from fetchunseen.base.fields import next_prime
from fetchunseen.books.library import Library
from fetchunseen.bound.chain import chain_of, is_chain, verdict
from fetchunseen.bound.least import gap, least_mean, least_rate, least_shown, scale
from fetchunseen.lots.lots import all_lots, lone_lots
from fetchunseen.make.lone import lone_scheme
from fetchunseen.make.lots import is_least, lots_scheme
from fetchunseen.make.sums import sums_scheme
from fetchunseen.scheme.runs import answers_to, asked_by, draws, fetched, views
from fetchunseen.scheme.schemes import exchanged_books, exchanged_houses, mean, together
from fetchunseen.scheme.sight import is_unseen
from tests.shapes import all_libraries, pair
from tests.support import Errors, some_rows
from tests.test_make_lots import SQUARE
from tests.test_weights import RING

PATH = ((0, 1), (1, 2), (2, 3))


class TestRuns(Errors):
    """[12.3]"""

    def check_fetch(self, scheme, library, wish, draw):
        asks = asked_by(scheme, wish, draw)
        answers = answers_to(library, asks)
        self.assertEqual(fetched(scheme, wish, draw, answers), library.books[wish])

    def test_all_draws(self):
        small = [lone_scheme(2, 2, 2), lone_scheme(3, 2, 2), lone_scheme(2, 3, 2), lone_scheme(2, 2, 3), sums_scheme(2, 1, 1, 2), sums_scheme(3, 1, 1, 3),
                 sums_scheme(5, 1, 1, 2), sums_scheme(3, 2, 1, 1), sums_scheme(3, 2, 2, 1), lots_scheme(3, 3, ((0, 1, 2),), 2), lots_scheme(2, 2, ((0,),), 3)]
        for scheme in small:
            libraries = all_libraries(scheme.prime, scheme.books, scheme.length)
            for wish, library in itertools.product(range(scheme.books), libraries):
                for draw in range(draws(scheme, wish)):
                    self.check_fetch(scheme, library, wish, draw)

    def test_some_draws(self):
        generator = random.Random(190)
        made = [sums_scheme(5, 2, 1, 2), sums_scheme(11, 3, 2, 2), sums_scheme(29, 3, 1, 3), sums_scheme(17, 2, 1, 4), sums_scheme(37, 6, 3, 2),
                lots_scheme(11, 3, RING, 2), lots_scheme(5, 4, SQUARE, 2), lots_scheme(17, 4, PATH, 4), lone_scheme(9973, 5, 3), lone_scheme(97, 6, 2)]
        for scheme in made:
            for wish in range(scheme.books):
                many = draws(scheme, wish)
                for draw in [0, many - 1] + [generator.randrange(many) for _ in range(4)]:
                    library = Library(scheme.prime, some_rows(generator, scheme.prime, scheme.books, scheme.length))
                    self.check_fetch(scheme, library, wish, draw)

    def test_views(self):
        """A lot that sees nothing views the same alike often, another one does not."""
        for scheme, blind, seeing in ((lone_scheme(3, 3, 2), lone_lots(3), all_lots(3, 2)), (sums_scheme(3, 2, 1, 1), (), ()),
                                      (sums_scheme(3, 1, 1, 2), ((0,),), ()), (lone_scheme(2, 4, 2), lone_lots(4), all_lots(4, 2))):
            for lot in blind:
                self.assertEqual(len({views(scheme, wish, lot) for wish in range(scheme.books)}), 1)
            for lot in seeing:
                self.assertGreater(len({views(scheme, wish, lot) for wish in range(scheme.books)}), 1)


class TestChains(Errors):
    """[14.5]"""

    def check_tight(self, scheme, lots):
        s = Fraction(*scale(scheme.houses, lots))
        for wish in range(scheme.books):
            chain = chain_of(scheme, lots, wish)
            self.assertIs(is_chain(scheme, lots, wish, chain), True)
            wholes = [Fraction(*step[0]) for step in chain[2]]
            rests = [Fraction(*step[1]) for step in chain[2]]
            self.assertEqual(Fraction(*mean(scheme, wish)), wholes[0])
            self.assertEqual([s * rest for rest in rests[:-1]], wholes[1:])
            self.assertEqual(rests[-1], 0)
        told = verdict(scheme, lots)
        self.assertEqual(told[:2], ("costs", (least_mean(scheme.houses, lots, scheme.books, scheme.length),) * scheme.books))

    def test_lone(self):
        for houses, books in ((2, 1), (2, 2), (2, 3), (2, 4), (3, 2), (3, 3), (4, 2), (5, 2), (6, 2)):
            self.check_tight(lone_scheme(2 + houses % 2, houses, books), lone_lots(houses))

    def test_lots(self):
        for houses, lots, books in ((3, RING, 2), (4, SQUARE, 2), (4, PATH, 3), (3, ((0, 1), (2,)), 4), (4, ((0, 1, 2), (0, 3), (1, 3), (2, 3)), 2),
                                    (3, ((0, 1, 2),), 4), (3, all_lots(3, 2), 3), (6, all_lots(6, 5), 2)):
            self.check_tight(lots_scheme(101, houses, lots, books), lots)
        for many, most, books in ((2, 1, 3), (2, 1, 4), (3, 1, 2), (3, 2, 3), (4, 3, 2), (5, 1, 2)):
            self.check_tight(sums_scheme(next_prime(many ** books + 1), many, most, books), all_lots(many, most))


class TestKept(Errors):
    """[8.3], [8.4]"""

    def test_orders(self):
        generator = random.Random(191)
        for scheme, lots in ((lone_scheme(3, 3, 3), lone_lots(3)), (sums_scheme(29, 3, 2, 3), all_lots(3, 2)), (sums_scheme(17, 4, 2, 2), all_lots(4, 2))):
            for _ in range(3):
                house_order = tuple(generator.sample(range(scheme.houses), scheme.houses))
                book_order = tuple(generator.sample(range(scheme.books), scheme.books))
                turned = exchanged_books(exchanged_houses(scheme, house_order), book_order)
                self.assertIs(is_least(turned, lots), True)
                for lot in itertools.combinations(range(scheme.houses), len(lots[-1]) + 1):
                    self.assertIs(is_unseen(turned, (lot,)), False)

    def test_together(self):
        one = lone_scheme(2, 2, 2)
        two = together(one, one)
        self.assertEqual([mean(two, wish) for wish in (0, 1)], [(3, 1), (3, 1)])
        self.assertIs(is_least(two, lone_lots(2)), True)
        self.assertIs(is_least(together(two, one), lone_lots(2)), True)
        three = together(lone_scheme(5, 3, 2), lone_scheme(5, 3, 2))
        self.assertIs(is_least(three, lone_lots(3)), True)
        self.assertIs(is_unseen(three, ((0, 1),)), False)
        for library in all_libraries(2, 2, 2)[::3]:
            for wish, draw in itertools.product((0, 1), range(4)):
                self.assertEqual(fetched(two, wish, draw, answers_to(library, asked_by(two, wish, draw))), library.books[wish])


class TestGrowth(Errors):
    """[0.17]"""

    def test_grows(self):
        for houses, lots in ((3, RING), (2, lone_lots(2)), (4, SQUARE), (6, all_lots(6, 5)), (4, ((0, 1, 2), (0, 3), (1, 3), (2, 3)))):
            s = Fraction(*scale(houses, lots))
            shown, shared = least_shown(houses, lots, 1)
            self.assertEqual((Fraction(*shown), Fraction(*shared)), (s / (s - 1), 1 / (s - 1)))
            costs = [Fraction(*least_mean(houses, lots, books, 1)) for books in range(1, 21)]
            gaps = [Fraction(*gap(houses, lots, books, 1)) for books in range(1, 21)]
            self.assertEqual([cost + left for cost, left in zip(costs, gaps)], [s / (s - 1)] * 20)
            self.assertEqual([one / s for one in gaps[:-1]], gaps[1:])
            self.assertEqual([pair(1 / cost) for cost in costs], [least_rate(houses, lots, books) for books in range(1, 21)])
        self.assertEqual([least_mean(2, ((0,),), books, 3) for books in (1, 2, 20)], [(3, 1)] * 3)
        self.assertEqual(least_shown(2, ((0,),), 3), ((3, 1), (0, 1)))


if __name__ == "__main__":
    unittest.main()
