"""Stage 10: what is seen."""

import itertools
import random
import unittest
from collections import Counter
from fractions import Fraction

from fetchunseen.base.rows import basis
from fetchunseen.scheme.schemes import Scheme, all_scheme, mean, open_scheme
from fetchunseen.scheme.sight import greatest_unseen, is_seen_answer, is_unseen, seen_answer, shares, sight
from tests.shapes import LONE, MIX, MIXED, PAIR, TORN, all_coins, bent, book_at, every_lot, great_scheme, own_sums, pair
from tests.shapes import rank_by_hand, six, some_scheme
from tests.support import Errors, FAR, KINDS, LOTS, SCHEME, all_rows, beyond, made_of, no_lot, number, objects, others_than, shown
from tests.support import span_of
from tests.test_lots import no_lots, some_lots, thirteen

NO_SCHEME = (SCHEME, others_than(Scheme) + [six(PAIR), PAIR.wishes])
BENT = [
    None, True, False, 0, 1, 2, -1, 10 ** 60, 10 ** 99, (), (0,), (1,), (0, 1), (1, 0), (1, True), ((1, 1),), ((0, 1),), [], [0, 1],
    ((1, 0),), ((), ((1, 0),)), "seen", "unseen", "", {}, {0: 1}, ((),), ((), ()), (((1, 1),),), "x" * 3000, *objects(),
]


def own_relations(prime, rows):
    """All relations, by trying."""
    if not rows:
        return frozenset([()])
    found = [letters for letters in all_rows(prime, len(rows)) if not any(made_of(prime, len(rows[0]), rows, letters))]
    return frozenset(found)


def own_key(scheme, asks, lot):
    """What the lot sees, without a basis."""
    if not scheme.is_mixed:
        return tuple([asks[house] for house in lot])
    sums = [row for house in lot for row in asks[house]]
    relations = [own_relations(scheme.prime, [book_at(scheme.length, row, book) for row in sums]) for book in range(scheme.books)]
    return (tuple([len(asks[house]) for house in lot]), tuple(relations))


def own_shares(scheme, wish, lot):
    every, found = sum([times for times, _ in scheme.wishes[wish]]), {}
    for times, asks in scheme.wishes[wish]:
        key = own_key(scheme, asks, lot)
        found[key] = found.get(key, 0) + Fraction(times, every)
    return found


def own_sees(scheme, lot):
    told = [own_shares(scheme, wish, lot) for wish in range(scheme.books)]
    return any([one != told[0] for one in told])


def is_exactly(value, wanted):
    """Equal, of equal kinds throughout."""
    return shown(value) == shown(wanted)


def own_seen_answer(scheme, lots, value):
    if is_exactly(value, ("unseen",)):
        return not any([own_sees(scheme, lot) for lot in lots])
    if type(value) is not tuple or len(value) != 5 or not is_exactly(value[0], "seen"):
        return False
    if not any([is_exactly(value[1], lot) for lot in lots]):
        return False
    if type(value[2]) is not int or type(value[3]) is not int or not 0 <= value[2] < value[3] < scheme.books:
        return False
    told = []
    for wish in value[2:4]:
        keys = [(own_key(scheme, scheme.wishes[own][coin][1], value[1]), sight(scheme, own, coin, value[1]))
                for own, coin in all_coins(scheme)]
        here = {key for key, some in keys if is_exactly(some, value[4])}
        told.append(own_shares(scheme, wish, value[1]).get(here.pop(), 0) if here else 0)
    return told[0] != told[1]


def small_schemes(seed, many, mixed=(False, True), most=2):
    generator = random.Random(seed)
    for _ in range(many):
        shape = generator.choice([(2, 2, 2, 1), (2, 3, 2, 2), (3, 2, 2, 1), (2, 4, 3, 1), (3, 2, 1, 2), (5, 2, 2, 1), (2, 2, 4, 1), (2, 2, 2, 3)])
        yield some_scheme(generator, *shape, generator.choice(mixed), most)


class Sights(Errors):
    def check_scheme(self, scheme):
        before = shown(scheme)
        blind = [lot for lot in every_lot(scheme.houses) if not own_sees(scheme, lot)]
        for lot in every_lot(scheme.houses):
            self.check_lot(scheme, lot, lot in blind)
        wanted = [lot for lot in blind if not any([set(lot) < set(other) for other in blind])]
        self.assertEqual(greatest_unseen(scheme), tuple(wanted))
        self.assertEqual(shown(scheme), before)
        return blind

    def check_lot(self, scheme, lot, is_blind):
        for wish in range(scheme.books):
            told, wanted = shares(scheme, wish, lot), own_shares(scheme, wish, lot)
            self.assertEqual(list(told), sorted(told))
            keys = {}
            for coin, (_, asks) in enumerate(scheme.wishes[wish]):
                some = sight(scheme, wish, coin, lot)
                self.check_sight(scheme, asks, lot, some)
                keys.setdefault(own_key(scheme, asks, lot), set()).add(some)
            self.assertEqual([len(some) for some in keys.values()], [1] * len(keys))
            self.assertEqual({some.pop(): pair(wanted[key]) for key, some in keys.items()}, dict(told))
            self.assertEqual(len(told), len(wanted))
        answer = seen_answer(scheme, (lot,))
        self.assertIs(own_seen_answer(scheme, (lot,), answer), True)
        self.assertIs(is_seen_answer(scheme, (lot,), answer), True)
        self.assertEqual(answer == ("unseen",), is_blind)
        self.assertIs(is_unseen(scheme, (lot,)), is_blind)

    def check_sight(self, scheme, asks, lot, told):
        """[10.1]"""
        if not scheme.is_mixed:
            self.assertEqual(told, tuple([asks[house] for house in lot]))
            return
        counts, bases = told
        self.assertEqual(counts, tuple([len(asks[house]) for house in lot]))
        for book, relations in enumerate(own_key(scheme, asks, lot)[1]):
            self.assertEqual(span_of(scheme.prime, sum(counts), bases[book]), set(relations))
            if bases[book]:
                self.assertEqual(bases[book], basis(scheme.prime, bases[book]))


class TestSights(Sights):
    """[10.1], [10.3]"""

    def test_given(self):
        for scheme in (PAIR, LONE, MIXED, MIX):
            self.check_scheme(scheme)
        self.assertEqual([greatest_unseen(PAIR), greatest_unseen(LONE), greatest_unseen(MIXED)], [((),), ((0,), (1,)), ((0,), (1,))])

    def test_some(self):
        blind = seeing = 0
        for scheme in small_schemes(100, 250):
            many = len(self.check_scheme(scheme))
            blind, seeing = blind + many, seeing + 2 ** scheme.houses - many
        self.assertGreater(blind, 300)
        self.assertGreater(seeing, 300)

    def test_all_of_one_coin(self):
        """All schemes of two wishes with one coin of at most one sum at each of two houses."""
        for prime, is_mixed in ((2, False), (2, True)):
            sums = [()] + [(row,) for row in all_rows(prime, 2)]
            for asks in itertools.product(itertools.product(sums, repeat=2), repeat=2):
                self.check_scheme(Scheme(prime, 2, 2, 1, is_mixed, tuple([((1, some),) for some in asks])))

    def test_unlike_times(self):
        """Shares, not times, are compared, and coins with one sight are counted as one."""
        one, other = (((1, 0),), ()), (((0, 1),), ((1, 1),))
        for is_mixed in (False, True):
            for first, second, unseen in (
                (((1, one), (1, other)), ((10 ** 9, one), (10 ** 9, other)), True),
                (((1, one), (2, other)), ((2, one), (1, other)), False),
                (((2, one), (3, other), (1, one)), ((10, other), (10, one)), True),
                (((3, one),), ((10 ** 9, one), (1, one)), True),
                (((3, one),), ((10 ** 9, one), (1, other)), False),
                (((2, one), (2, other)), ((1, other), (1, one)), True),
            ):
                scheme = Scheme(3, 2, 2, 1, is_mixed, (first, second))
                self.check_scheme(scheme)
                self.assertIs(is_unseen(scheme, ((0, 1),)), unseen)
        self.assertEqual(shares(Scheme(3, 2, 2, 1, False, (((2, one), (4, other)), ((1, one),))), 0, (0,)),
                         (((((0, 1),),), (2, 3)), ((((1, 0),),), (1, 3))))

    def test_same_letters_behind_tables(self):
        """In a mixed scheme rows are known by their relations alone."""
        for rows, others, alike in (
            (((1, 0), (0, 1)), ((1, 1), (0, 1)), True), (((1, 0), (2, 0)), ((0, 1), (0, 2)), True),
            (((1, 0), (2, 0)), ((0, 1), (0, 1)), False), (((0, 0),), ((1, 0),), False), (((1, 2),), ((2, 2),), True),
        ):
            made = [tuple([row + (0, 0) for row in some]) for some in (rows, others)]
            scheme = Scheme(3, 1, 2, 2, True, tuple([((1, (some,)),) for some in made]))
            self.assertIs(is_unseen(scheme, ((0,),)), alike)
            self.assertIs(is_unseen(Scheme(*bent(scheme, is_mixed=False)), ((0,),)), False)

    def test_more_relations_than_ranks(self):
        """[10.5]"""
        rows = [((1, 0), (0, 1), (1, 1), (1, letter)) for letter in (2, 3, 4)]
        coins = [((1, (some,)),) for some in rows]
        told = {sight(Scheme(5, 1, 1, 2, True, (coin,)), 0, 0, (0,)) for coin in coins}
        self.assertEqual(len(told), 3)
        for scheme in small_schemes(101, 60, (True,)):
            found = {}
            for wish, coin in all_coins(scheme):
                for lot in every_lot(scheme.houses):
                    sums = own_sums(scheme, wish, coin, lot)
                    parts = [[book_at(scheme.length, row, book) for row in sums] for book in range(scheme.books)]
                    ranks = tuple([rank_by_hand(scheme.prime, some) for some in parts])
                    found.setdefault((lot, sight(scheme, wish, coin, lot)), set()).add(ranks)
            self.assertEqual({len(ranks) for ranks in found.values()}, {1})


class TestJustThis(Sights):
    """[10.2]: by all invertible tables."""

    def all_tables(self, prime, width):
        return [table for table in itertools.product(all_rows(prime, width), repeat=width) if rank_by_hand(prime, table) == width]

    def sent(self, scheme, asks, lot, tables):
        made = []
        for house in lot:
            sums = []
            for row in asks[house]:
                parts = [made_of(scheme.prime, scheme.length, table, book_at(scheme.length, row, book)) for book, table in enumerate(tables)]
                sums.append(tuple([letter for part in parts for letter in part]))
            made.append(tuple(sums))
        return tuple(made)

    def check_sent(self, scheme):
        tables = self.all_tables(scheme.prime, scheme.length)
        for lot in every_lot(scheme.houses):
            views = {}
            for wish, coin in all_coins(scheme):
                asks = scheme.wishes[wish][coin][1]
                views[wish, coin] = Counter([self.sent(scheme, asks, lot, some) for some in itertools.product(tables, repeat=scheme.books)])
                self.assertEqual(len(set(views[wish, coin].values())), 1)
            for one, other in itertools.combinations(views, 2):
                if sight(scheme, *one, lot) == sight(scheme, *other, lot):
                    self.assertEqual(views[one], views[other])
                else:
                    self.assertFalse(set(views[one]) & set(views[other]))

    def test_small(self):
        generator = random.Random(102)
        for shape in ((2, 2, 2, 1), (2, 2, 1, 2), (3, 2, 2, 1), (5, 2, 2, 1), (3, 3, 3, 1), (2, 2, 2, 2)):
            for _ in range(12):
                self.check_sent(some_scheme(generator, *shape, True, 2, 2))
        self.check_sent(MIX)


class TestLots(Sights):
    """[10.4]"""

    def test_within(self):
        for scheme in small_schemes(103, 120):
            blind = [lot for lot in every_lot(scheme.houses) if is_unseen(scheme, (lot,))]
            self.assertIn((), blind)
            for one, other in itertools.product(every_lot(scheme.houses), repeat=2):
                if other in blind and set(one) <= set(other):
                    self.assertIn(one, blind)
            greatest = greatest_unseen(scheme)
            self.assertEqual({lot for lot in every_lot(scheme.houses) if any([set(lot) <= set(one) for one in greatest])}, set(blind))

    def test_one_book(self):
        generator = random.Random(104)
        for is_mixed in (False, True):
            for houses in range(1, 7):
                scheme = some_scheme(generator, 3, houses, 1, 2, is_mixed)
                self.assertEqual(greatest_unseen(scheme), (tuple(range(houses)),))
                self.assertEqual(seen_answer(scheme, tuple([(house,) for house in range(houses)])), ("unseen",))

    def test_many_greatest(self):
        """Any three of six houses see, no two do: more than twelve greatest lots."""
        # Twelve rows of signs: any two columns show each pair of signs three times, but
        # for three columns some triples of signs come more often than their opposites.
        first = [1, 1, 0, 1, 1, 1, 0, 0, 0, 1, 0]
        signs = [first[-at:] + first[:-at] for at in range(11)] + [[0] * 11]
        for is_mixed in (False, True):
            wishes = []
            for flip in (0, 1):
                asks = [tuple([((1, 1),) if sign != flip else () for sign in row[:6]]) for row in signs]
                wishes.append(tuple([(1, some) for some in asks]))
            scheme = Scheme(7, 6, 2, 1, is_mixed, tuple(wishes))
            found = greatest_unseen(scheme)
            self.assertEqual(found, tuple(itertools.combinations(range(6), 2)))
            self.assertEqual(len(found), 15)

    def test_no_lots(self):
        for scheme in (PAIR, MIXED, open_scheme(5, 6, 4, 1, 2)):
            self.assertEqual([seen_answer(scheme, ()), is_unseen(scheme, ()), is_unseen(scheme, ((),))], [("unseen",), True, True])
            self.assertIs(is_seen_answer(scheme, (), ("unseen",)), True)

    def test_known(self):
        opened = open_scheme(9973, 6, 4, 25, 2)
        self.assertEqual(greatest_unseen(opened), ((0, 1, 3, 4, 5),))
        self.assertEqual(greatest_unseen(all_scheme(9973, 6, 4, 25, 2)), (tuple(range(6)),))
        answer = seen_answer(opened, ((0, 1), (0, 2), (2,)))
        self.assertIs(own_seen_answer(opened, ((0, 1), (0, 2), (2,)), answer), True)

    def test_not_true(self):
        """[10.6]"""
        self.assertEqual([is_unseen(LONE, ((0,), (1,))), is_unseen(LONE, ((0, 1),))], [True, False])
        some = open_scheme(2, 1, 3, 1, 0)
        same = Scheme(*bent(some, wishes=some.wishes[:2] + some.wishes[:1]))
        self.assertIs(is_seen_answer(same, ((0,),), ("seen", (0,), 0, 2, sight(same, 0, 0, (0,)))), False)
        self.assertIs(is_seen_answer(same, ((0,),), ("seen", (0,), 0, 1, sight(same, 0, 0, (0,)))), True)
        self.assertEqual([mean(some, wish) for wish in range(3)], [(1, 1)] * 3)
        self.assertIs(is_unseen(some, ((0,),)), False)

    def test_great(self):
        generator = random.Random(105)
        for is_mixed in (False, True):
            for books, length, houses in ((4, 25, 6), (2, 50, 6), (1, 100, 6), (2, 50, 1)):
                for same in (True, False):
                    scheme = great_scheme(generator, 9973, books, length, is_mixed, houses, same)
                    whole = tuple(range(houses))
                    self.check_within(20, sight, scheme, books - 1, 0, whole)
                    self.check_within(20, shares, scheme, 0, whole)
                    lots = some_lots(generator, houses, 12)
                    answer = self.check_within(20, seen_answer, scheme, lots)
                    self.assertIs(self.check_within(20, is_seen_answer, scheme, lots, answer), True)
                    self.assertIs(self.check_within(20, is_unseen, scheme, lots), answer == ("unseen",))
                    found = self.check_within(30, greatest_unseen, scheme)
                    if same or books == 1:
                        self.assertEqual((found, answer), ((whole,), ("unseen",)))

    def test_many_coins(self):
        coins = tuple([(10 ** 9 - at, (((at, 1),), ()) + ((),) * 4) for at in range(64)])
        scheme = Scheme(9973, 6, 2, 1, False, (coins, coins[::-1]))
        self.assertEqual(greatest_unseen(scheme), (tuple(range(6)),))
        every = sum(times for times, _ in coins)
        self.assertEqual(shares(scheme, 0, (0,)), tuple([((((at, 1),),), pair(Fraction(10 ** 9 - at, every))) for at in range(64)]))
        mixed = Scheme(*bent(scheme, is_mixed=True))
        told = [(((1,), ((), ())), pair(Fraction(every - 10 ** 9, every))), (((1,), (((1,),), ())), pair(Fraction(10 ** 9, every)))]
        self.assertEqual(shares(mixed, 0, (0,)), tuple(told))


class TestJudged(Sights):
    def test_all_papers(self):
        taken = 0
        for scheme in small_schemes(106, 60):
            lots = tuple([lot for at, lot in enumerate(every_lot(scheme.houses)) if at % 3 != 1])[:12]
            whole = every_lot(scheme.houses)
            for lot in whole[:6]:
                sights = {sight(scheme, wish, coin, lot) for wish, coin in all_coins(scheme)} | {(), ((), ()), ((0,), ((), ()))}
                for one, other in itertools.product(range(-1, scheme.books + 1), repeat=2):
                    for some in sights:
                        value = ("seen", lot, one, other, some)
                        told = is_seen_answer(scheme, lots, value)
                        self.assertIs(told, own_seen_answer(scheme, lots, value))
                        taken += told
            self.assertIs(is_seen_answer(scheme, lots, ("unseen",)), own_seen_answer(scheme, lots, ("unseen",)))
        self.assertGreater(taken, 100)

    def test_bent_values(self):
        for scheme, lots in ((PAIR, ((0,), (0, 1))), (LONE, ((0, 1),)), (MIXED, ((0,), (0, 1), (1,))), (LONE, ((0,),))):
            self.check_bent(is_seen_answer, (scheme, lots), own_seen_answer, seen_answer(scheme, lots), BENT)

    def test_values_of_every_kind(self):
        good = ("seen", (0, 1), 0, 1, ((), ((1, 0),)))
        self.assertIs(is_seen_answer(LONE, ((0, 1),), good), True)
        values = KINDS + FAR + [(), "unseen", ["unseen"], ("unseen", ()), ("seen",), ("unseen",), list(good), good[:4], good + ((),),
                                ("Seen",) + good[1:], ("seen", (0,), 0, 1, (((1, 1),),)), ("seen", (1, 0), 0, 1, good[4]),
                                ("seen", (0, True), 0, 1, good[4]), ("seen", (False, 1), 0, 1, good[4]), ("seen", [0, 1], 0, 1, good[4]),
                                ("seen", (0, 1), False, 1, good[4]), ("seen", (0, 1), 0, True, good[4]), ("seen", (0, 1), 1, 0, good[4]),
                                ("seen", (0, 1), 0, 0, good[4]), ("seen", (0, 1), 1, 1, good[4]), ("seen", (0, 1), -2, 1, good[4]),
                                ("seen", (0, 1), 0, 2, good[4]), ("seen", (0, 1), 0, 1, ((), ((True, 0),))),
                                ("seen", (0, 1), 0, 1, ((), ((1, False),))), ("seen", (0, 1), 0, 1, ((), [(1, 0)])),
                                ("seen", (0, 1), 0, 1, [(), ((1, 0),)]), ("seen", (0, 1), 0, 1, ((), ((1, 0), ()))), ("seen", (), 0, 1, ())]
        self.check_accepts(is_seen_answer, (LONE, ((0, 1),)), values)
        values = [value for value in values if value != ("unseen",)] + [good, (True,), (("unseen",),), ("Unseen",)]
        self.check_accepts(is_seen_answer, (LONE, ((0,), (1,))), values)
        self.assertIs(is_seen_answer(LONE, ((0,), (1,)), ("unseen",)), True)

    def test_errors(self):
        lots = (LOTS, no_lots(2) + [thirteen()])
        for function in (seen_answer, is_unseen):
            self.check_arguments(function, (PAIR, ((0,), (1,))), [NO_SCHEME, lots])
        self.check_arguments(is_seen_answer, (PAIR, ((0,), (1,)), None), [NO_SCHEME, lots, None])
        self.check_arguments(greatest_unseen, (PAIR,), [NO_SCHEME])
        wish = (number, beyond(2))
        self.check_arguments(sight, (PAIR, 1, 1, (0, 1)), [NO_SCHEME, wish, wish, (LOTS, no_lot(2))])
        self.check_arguments(shares, (PAIR, 1, (0, 1)), [NO_SCHEME, wish, (LOTS, no_lot(2))])
        self.check_error(sight, (TORN, 1, 1, ()), number(1))
        self.check_error(sight, (TORN, 1, 0, (0, 3)), LOTS(None))

    def test_equal_calls(self):
        for scheme in (PAIR, LONE, MIXED):
            self.check_twice(sight, [(scheme, 1, 0, (0, 1))])
            self.check_twice(shares, [(scheme, 1, (0, 1))])
            for function in (seen_answer, is_unseen):
                self.check_twice(function, [(scheme, ((0,), (1,))), (scheme, ((0, 1),))])
            self.check_twice(is_seen_answer, [(scheme, ((0, 1),), seen_answer(scheme, ((0, 1),)))])
            self.check_twice(greatest_unseen, [(scheme,)])


if __name__ == "__main__":
    unittest.main()
