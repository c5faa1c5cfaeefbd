"""Stage 14: the chain, and what a scheme is."""

import itertools
import random
import unittest
from fractions import Fraction
from math import gcd

from fetchunseen.bound.chain import chain_of, is_chain, is_verdict, mean_rank, verdict
from fetchunseen.bound.least import least_mean, scale
from fetchunseen.lots.lots import all_lots, free_houses, lone_lots
from fetchunseen.scheme.right import is_right, right_answer
from fetchunseen.scheme.schemes import Scheme, all_scheme, mean, open_scheme, together
from fetchunseen.scheme.sight import greatest_unseen, is_unseen, seen_answer
from tests.shapes import LONE, MIX, MIXED, PAIR, TORN, bent, every_lot, great_scheme, is_wrong_by_trying, own_mean, own_sums, pair
from tests.shapes import all_coins, rank_by_hand, six, some_scheme
from tests.support import Errors, FAR, KINDS, LOTS, OPERATION, SCHEME, beyond, no_lot, number, objects, others_than, refused, shown
from tests.test_lots import no_lots, some_lots, thirteen
from tests.test_right import ONE, own_right_answer
from tests.test_sight import is_exactly, own_seen_answer, own_sees

NO_SCHEME = (SCHEME, others_than(Scheme) + [six(PAIR), PAIR.wishes])
SQUARE = ((0, 1), (0, 3), (1, 2), (2, 3))
ONES = ((1, 1), (1, 1))
BENT = [
    None, True, False, 0, 1, 2, -1, 10 ** 60, 10 ** 99, (), (0,), (1,), (0, 1), (1, 1), (1, 2), (2, 4), (3, 2), (1, True), (1, 0), [], [1, 1],
    ((1, 1), (1, 1)), ((1, 1),), "chain", "costs", "seen", "", {}, {0: 1}, ((),), "x" * 3000, *objects(),
]


def added_units(width, places):
    return tuple([int(at in places) for at in range(width)])


def lone_scheme(prime, houses, books):
    """The scheme for lone houses, with the fewest letters: numbers that come to the house's own."""
    length, wishes = houses - 1, []
    for wish in range(books):
        coins = []
        for key in itertools.product(range(houses), repeat=books - 1):
            asks = []
            for house in range(houses):
                numbers = list(key[:wish]) + [(house - sum(key)) % houses] + list(key[wish:])
                places = [book * length + one - 1 for book, one in enumerate(numbers) if one]
                asks.append((added_units(books * length, places),) if places else ())
            coins.append((1, tuple(asks)))
        wishes.append(tuple(coins))
    return Scheme(prime, houses, books, length, False, tuple(wishes))


def sums_of_two():
    """Mixed, two houses, two books of four letters, with the fewest letters."""
    def asks(wish):
        # Places 0 and 1 of both books, then each house's sum of a new letter and one that the other house tells.
        own, other = 4 * wish, 4 * (1 - wish)
        return tuple([(added_units(8, [house]), added_units(8, [4 + house]), added_units(8, [own + 2 + house, other + 1 - house]))
                      for house in (0, 1)])
    return Scheme(5, 2, 2, 4, True, tuple([((1, asks(wish)),) for wish in (0, 1)]))


def unlike_times():
    """The scheme for two lone houses, with some coins told twice and unlike times for the wishes."""
    wishes = [tuple([(3, coin[1]) for coin in LONE.wishes[0]]),
              tuple([(many, coin[1]) for many, coin in zip((10 ** 9 - 4, 10 ** 9), LONE.wishes[1])] + [(4, LONE.wishes[1][0][1])])]
    return Scheme(*bent(LONE, wishes=tuple(wishes)))


RIGHT = [LONE, PAIR, MIX, sums_of_two(), unlike_times(), lone_scheme(2, 2, 3), lone_scheme(3, 3, 2), lone_scheme(2, 3, 3),
         lone_scheme(2, 2, 4), together(LONE, LONE), together(LONE, all_scheme(2, 2, 2, 1, 1)), all_scheme(5, 4, 3, 2, 2),
         open_scheme(5, 3, 3, 2, 1), open_scheme(2, 1, 1, 4, 0), all_scheme(3, 6, 4, 1, 5)]


def own_mean_rank(scheme, wish, lot, gone):
    total = 0
    for coin, (times, _) in enumerate(scheme.wishes[wish]):
        rows = [[0 if at // scheme.length in gone else letter for at, letter in enumerate(row)]
                for row in own_sums(scheme, wish, coin, lot)]
        total += times * rank_by_hand(scheme.prime, rows)
    return Fraction(total, sum([times for times, _ in scheme.wishes[wish]]))


def own_steps(scheme, lots, wish):
    order = [wish] + [book for book in range(scheme.books) if book != wish]
    whole, steps = tuple(range(scheme.houses)), []
    for at, book in enumerate(order):
        numbers = [pair(own_mean_rank(scheme, book, lot, order[:at + 1])) for lot in lots]
        steps.append((pair(own_mean_rank(scheme, book, whole, order[:at])), pair(own_mean_rank(scheme, book, whole, order[:at + 1])), tuple(numbers)))
    return tuple(steps)


def is_own_fraction(value):
    if type(value) is not tuple or len(value) != 2 or any([type(one) is not int or abs(one) >= 10 ** 60 for one in value]):
        return False
    return value[1] > 0 and gcd(*value) == 1


def own_chain(scheme, lots, wish, value):
    if type(value) is not tuple or len(value) != 3 or not is_exactly(value[0], "chain"):
        return False
    cover = value[1]
    if type(cover) is not tuple or len(cover) != len(lots) or not all([is_own_fraction(some) and some[0] >= 0 for some in cover]):
        return False
    for house in range(scheme.houses):
        if sum([Fraction(*some) for lot, some in zip(lots, cover) if house in lot]) < 1:
            return False
    if sum([Fraction(*some) for some in cover]) != Fraction(*scale(scheme.houses, lots)):
        return False
    return is_exactly(value[2], own_steps(scheme, lots, wish))


def own_verdict(scheme, lots, value):
    if any([is_wrong_by_trying(scheme, *coin) for coin in all_coins(scheme)]):
        return own_right_answer(scheme, value)
    if any([own_sees(scheme, lot) for lot in lots]):
        return own_seen_answer(scheme, lots, value)
    if type(value) is not tuple or len(value) != 3 or not is_exactly(value[0], "costs"):
        return False
    if not is_exactly(value[1], tuple([pair(own_mean(scheme, wish)) for wish in range(scheme.books)])):
        return False
    if free_houses(scheme.houses, lots):
        return is_exactly(value[2], ())
    if type(value[2]) is not tuple or len(value[2]) != scheme.books:
        return False
    return all([own_chain(scheme, lots, wish, chain) for wish, chain in enumerate(value[2])])


def unseen_lots(generator, scheme):
    """Some lots by which the scheme is unseen, without a free house if there are such."""
    blind = [lot for lot in every_lot(scheme.houses) if is_unseen(scheme, (lot,))]
    yield greatest_unseen(scheme)[:12]
    for _ in range(3):
        yield tuple(sorted(generator.sample(blind, min(len(blind), generator.randrange(1, 12)))))


class Chains(Errors):
    def check_chain(self, scheme, lots, wish):
        """[14.2], [14.3], [14.4], [14.5]"""
        chain = chain_of(scheme, lots, wish)
        self.assertIs(own_chain(scheme, lots, wish, chain), True)
        self.assertIs(is_chain(scheme, lots, wish, chain), True)
        s = Fraction(*scale(scheme.houses, lots))
        cover = [Fraction(*some) for some in chain[1]]
        steps = [[Fraction(*step[0]), Fraction(*step[1]), [Fraction(*some) for some in step[2]]] for step in chain[2]]
        self.assertEqual(len(steps), scheme.books)
        told = Fraction(*mean(scheme, wish))
        self.assertGreaterEqual(told, steps[0][0])
        self.assertEqual(steps[-1][1], 0)
        order = [wish] + [book for book in range(scheme.books) if book != wish]
        for at, (whole, rest, numbers) in enumerate(steps):
            self.assertEqual(whole, scheme.length + rest)
            bound = sum([some * part for some, part in zip(numbers, cover)])
            self.assertGreaterEqual(s * rest, bound)
            if at + 1 < len(steps):
                again = [own_mean_rank(scheme, order[at + 1], lot, order[:at + 1]) for lot in lots]
                self.assertEqual(again, numbers)
                self.assertGreaterEqual(bound, steps[at + 1][0])
        least = Fraction(*least_mean(scheme.houses, lots, scheme.books, scheme.length))
        self.assertGreaterEqual(told, least)
        tight = told == steps[0][0] and all([s * one[1] == other[0] for one, other in zip(steps, steps[1:])])
        self.assertEqual(told == least, tight)
        return told == least


class TestRanks(Chains):
    """[14.1]"""

    def test_small(self):
        generator = random.Random(140)
        schemes = RIGHT + [TORN, MIXED]
        for _ in range(60):
            shape = generator.choice([(2, 2, 2, 2), (3, 3, 3, 1), (5, 2, 4, 2), (9973, 6, 2, 3), (2, 1, 1, 3)])
            schemes.append(some_scheme(generator, *shape, generator.randrange(2) == 1))
        for scheme in schemes:
            gones = [gone for many in range(scheme.books + 1) for gone in itertools.combinations(range(scheme.books), many)]
            for wish, lot, gone in itertools.product(range(scheme.books), every_lot(scheme.houses)[:9], gones):
                self.assertEqual(mean_rank(scheme, wish, lot, gone), pair(own_mean_rank(scheme, wish, lot, gone)))
            self.assertEqual(mean_rank(scheme, 0, tuple(range(scheme.houses)), gones[-1]), (0, 1))

    def test_from_wish_to_wish(self):
        """[14.3]"""
        for scheme in RIGHT:
            gones = [gone for many in range(scheme.books + 1) for gone in itertools.combinations(range(scheme.books), many)]
            for lot in every_lot(scheme.houses):
                if is_unseen(scheme, (lot,)):
                    for gone in gones:
                        self.assertEqual(len({mean_rank(scheme, wish, lot, gone) for wish in range(scheme.books)}), 1)

    def test_great(self):
        generator = random.Random(141)
        for books, length in ((4, 25), (2, 50), (1, 100)):
            scheme = great_scheme(generator, 9973, books, length, True)
            whole = tuple(range(6))
            for gone in ((), (0,), tuple(range(books))):
                told = self.check_within(20, mean_rank, scheme, books - 1, whole, gone)
                self.assertEqual(told, (100 - length * len(gone), 1))

    def test_errors(self):
        wrong = [NO_SCHEME, (number, beyond(2)), (LOTS, no_lot(2)), (OPERATION, no_lot(2))]
        self.check_arguments(mean_rank, (PAIR, 1, (0, 1), (0, 1)), wrong)
        self.check_error(mean_rank, (TORN, 1, (0, 3), (2,)), LOTS(None))
        self.check_error(mean_rank, (TORN, 1, (0, 2), (2,)), OPERATION(None))


class TestChain(Chains):
    def test_right_ones(self):
        generator = random.Random(142)
        least = others = free = 0
        for scheme in RIGHT:
            self.assertIs(is_right(scheme), True)
            for lots in unseen_lots(generator, scheme):
                houses = free_houses(scheme.houses, lots)
                if houses:
                    free += 1
                    for wish in range(scheme.books):
                        self.check_error(chain_of, (scheme, lots, wish), refused("free", houses[0]))
                        self.check_error(is_chain, (scheme, lots, wish, None), refused("free", houses[0]))
                    continue
                met = [self.check_chain(scheme, lots, wish) for wish in range(scheme.books)]
                least, others = least + all(met), others + (not all(met))
        self.assertGreater(min(least, others, free), 5)

    def test_known_least(self):
        """Schemes that need just as many."""
        for scheme, lots in ((LONE, lone_lots(2)), (sums_of_two(), lone_lots(2)), (unlike_times(), lone_lots(2)),
                             (lone_scheme(2, 2, 3), lone_lots(2)), (lone_scheme(3, 3, 2), lone_lots(3)), (lone_scheme(2, 3, 3), lone_lots(3)),
                             (lone_scheme(2, 2, 4), lone_lots(2)), (together(LONE, LONE), lone_lots(2)),
                             (all_scheme(2, 3, 4, 2, 1), ((0, 1, 2),)), (open_scheme(2, 1, 1, 4, 0), ((0,),))):
            for wish in range(scheme.books):
                self.assertIs(self.check_chain(scheme, lots, wish), True)
                self.assertEqual(mean(scheme, wish), least_mean(scheme.houses, lots, scheme.books, scheme.length))
        self.assertIs(self.check_chain(MIX, lone_lots(2), 0), False)
        self.assertIs(self.check_chain(all_scheme(2, 3, 2, 1, 0), all_lots(3, 2), 0), False)

    def test_other_covers(self):
        scheme = all_scheme(3, 4, 2, 1, 2)
        steps = chain_of(scheme, SQUARE, 1)[2]
        half, one, none = (1, 2), (1, 1), (0, 1)
        for cover in ((one, none, none, one), (none, one, one, none), (half,) * 4, ((1, 3), (2, 3), (2, 3), (1, 3))):
            self.assertIs(is_chain(scheme, SQUARE, 1, ("chain", cover, steps)), True)
        far = (10 ** 50 - 1, 10 ** 50), (1, 10 ** 50)
        self.assertIs(is_chain(scheme, SQUARE, 1, ("chain", (far[0], far[1], far[1], far[0]), steps)), True)
        self.check_accepts(is_chain, (scheme, SQUARE, 1), [
            ("chain", cover, steps) for cover in (
                (one,) * 4, (one, none, none, half), (half,) * 3, (half,) * 5, (one, none, none, (2, 2)), (one, (0, 2), none, one),
                (one, none, none, (True, 1)), (one, (False, 1), none, one), [one, none, none, one], ((2, 1), none, none, none),
                (one, none, (-1, 1), (2, 1)), ((3, 2), none, none, half), None, (), (one, none, none, [1, 1]),
                ((10 ** 60 - 1, 10 ** 60), (1, 10 ** 60), (1, 10 ** 60), (10 ** 60 - 1, 10 ** 60)))])

    def test_bent_values(self):
        for scheme, lots, wish in ((LONE, lone_lots(2), 0), (lone_scheme(2, 2, 3), lone_lots(2), 2), (all_scheme(3, 4, 2, 1, 2), SQUARE, 1)):
            self.check_bent(is_chain, (scheme, lots, wish), own_chain, chain_of(scheme, lots, wish), BENT)

    def test_values_of_every_kind(self):
        good = chain_of(LONE, lone_lots(2), 0)
        before = (LONE, lone_lots(2), 0)
        self.check_accepts(is_chain, before, KINDS + FAR + [
            (), ("chain",), good[:2], good + ((),), list(good), ("Chain",) + good[1:], (good[0], good[2], good[1]), good[1], good[2],
            (good[0], good[1], list(good[2])), (good[0], good[1], good[2][::-1]), (good[0], good[1], good[2][:1]),
            (good[0], good[1], good[2] + good[2][:1]), eval(repr(good).replace("0", "False")), eval(repr(good).replace("1", "True")),
            (good[0], good[1], good[2][:1] + (((2, 2), (0, 1), ((0, 1), (0, 1))),)), (good[0], good[1], good[2][:1] + (((1, 1), (0, 1), ((0, 1),)),)),
            ("costs", ((3, 2), (3, 2)), (good, good)), verdict(LONE, lone_lots(2)), (good[0], good[1], ()),
        ])
        self.assertIs(is_chain(*before, eval(repr(good))), True)
        # Another wish of LONE has the same chain, one of a scheme with unlike lots has not.
        self.assertIs(is_chain(LONE, lone_lots(2), 1, good), True)
        self.assertIs(is_chain(LONE, ((), (0,), (1,)), 1, good), False)

    def test_errors(self):
        lots = (LOTS, no_lots(2) + [thirteen()])
        self.check_arguments(chain_of, (LONE, lone_lots(2), 1), [NO_SCHEME, lots, (number, beyond(2))])
        self.check_arguments(is_chain, (LONE, lone_lots(2), 1, None), [NO_SCHEME, lots, (number, beyond(2)), None])
        opened = open_scheme(2, 3, 2, 1, 1)
        torn = Scheme(*bent(opened, wishes=(opened.wishes[0], ((1, ((), (), ())),))))
        for function, more in ((chain_of, ()), (is_chain, (None,))):
            for scheme, told, reason in (
                (torn, ((0, 2), (1,)), ("wrong",)), (torn, ((0,),), ("wrong",)), (torn, (), ("wrong",)), (ONE, ((0,),), ("wrong",)),
                (opened, ((1,),), ("seen",)), (opened, ((0, 1, 2),), ("seen",)), (opened, ((0,), (1, 2)), ("seen",)), (PAIR, lone_lots(2), ("seen",)),
                (opened, ((0,), (2,)), ("free", 1)), (opened, (), ("free", 0)), (opened, ((),), ("free", 0)), (opened, ((0,),), ("free", 1)),
                (LONE, ((0,),), ("free", 1)), (LONE, ((1,),), ("free", 0)),
            ):
                for wish in (0, 1):
                    self.check_error(function, (scheme, told, wish) + more, refused(*reason))
                self.check_error(function, (scheme, told, 2) + more, number(2))
                self.check_error(function, (scheme, None, 2) + more, LOTS(None))
                self.check_error(function, (scheme, ((3,),), 2) + more, LOTS(None))

    def test_great(self):
        generator = random.Random(143)
        wide = [lot for lot in every_lot(6) if len(lot) > 3]
        for books, length, houses, is_mixed in ((4, 25, 6, False), (2, 50, 6, True), (1, 100, 6, False)):
            scheme = great_scheme(generator, 9973, books, length, is_mixed, houses)
            lots = tuple(sorted(generator.sample(wide, 12)))
            if free_houses(6, lots):
                lots = tuple(sorted(lots[:11] + (tuple(range(6)),)))
            chain = self.check_within(20, chain_of, scheme, lots, books - 1)
            self.assertIs(self.check_within(20, is_chain, scheme, lots, books - 1, chain), True)
            self.assertEqual(chain[2], own_steps(scheme, lots, books - 1))
            told = self.check_within(30, verdict, scheme, lots)
            self.assertEqual(told[:2], ("costs", ((100, 1),) * books))
            self.assertIs(self.check_within(30, is_verdict, scheme, lots, told), True)
            wrong = told[2][-1][2][-1]
            self.assertIs(is_verdict(scheme, lots, ("costs", told[1], told[2][:-1] + (told[2][-1][:2] + (wrong,),))), False)


class TestVerdict(Chains):
    """[14.6]"""

    def check_verdict(self, scheme, lots):
        before = shown((scheme, lots))
        told = verdict(scheme, lots)
        self.assertIs(own_verdict(scheme, lots, told), True)
        self.assertIs(is_verdict(scheme, lots, told), True)
        every = [right_answer(scheme), seen_answer(scheme, lots), ("costs", tuple([mean(scheme, wish) for wish in range(scheme.books)]), ())]
        for value in every:
            self.assertIs(is_verdict(scheme, lots, value), own_verdict(scheme, lots, value))
        self.assertEqual(shown((scheme, lots)), before)
        return told[0] + ("" if told[0] != "costs" else "+" if told[2] else "-")

    def test_some(self):
        generator = random.Random(144)
        kinds = []
        for _ in range(250):
            shape = generator.choice([(2, 2, 2, 1), (2, 3, 2, 2), (3, 2, 2, 1), (2, 3, 3, 1), (3, 2, 1, 2), (2, 1, 2, 1)])
            scheme = some_scheme(generator, *shape, generator.randrange(2) == 1, 3)
            for _ in range(3):
                kinds.append(self.check_verdict(scheme, some_lots(generator, scheme.houses, generator.randrange(5))))
        for scheme in [LONE, PAIR, MIX, TORN, MIXED, ONE] + [one for one in RIGHT if one.prime ** one.width <= 300]:
            for lots in [(), ((),), lone_lots(scheme.houses), (tuple(range(scheme.houses)),)] + list(unseen_lots(generator, scheme)):
                kinds.append(self.check_verdict(scheme, lots))
        self.assertEqual(set(kinds), {"wrong", "seen", "costs+", "costs-"})
        self.assertGreater(min([kinds.count(kind) for kind in set(kinds)]), 30)

    def test_all_of_one_coin(self):
        """Each scheme of one coin with at most one sum at each of two houses is just one of the three."""
        sums = [()] + [(row,) for row in itertools.product((0, 1), repeat=2)]
        counted = {}
        for asks in itertools.product(itertools.product(sums, repeat=2), repeat=2):
            scheme = Scheme(2, 2, 2, 1, True, tuple([((1, some),) for some in asks]))
            kind = self.check_verdict(scheme, lone_lots(2))
            counted[kind] = counted.get(kind, 0) + 1
        self.assertEqual(sum(counted.values()), 625)
        self.assertEqual(set(counted), {"wrong", "seen", "costs+"})

    def test_least_of_all(self):
        """[13.2]: no right, unseen scheme needs less."""
        for scheme in RIGHT:
            for lots in unseen_lots(random.Random(145), scheme):
                told = verdict(scheme, lots)
                self.assertEqual(told[0], "costs")
                least = Fraction(*least_mean(scheme.houses, lots, scheme.books, scheme.length))
                self.assertGreaterEqual(min([Fraction(*some) for some in told[1]]), least)

    def test_other_papers(self):
        lots = ((0, 1), (1,))
        self.assertEqual(verdict(PAIR, lots)[0], "seen")
        for lot in lots:
            self.assertIs(is_verdict(PAIR, lots, seen_answer(PAIR, (lot,))), True)
        self.assertIs(is_verdict(PAIR, lots, seen_answer(PAIR, ((0,),))), False)
        for row in itertools.product(range(3), repeat=2):
            value = ("wrong", 0, 0, row)
            self.assertIs(is_verdict(ONE, ((0,),), value), own_right_answer(ONE, value))
        scheme = all_scheme(3, 4, 2, 1, 2)
        means, chains = verdict(scheme, SQUARE)[1:]
        covers = ((1, 1), (0, 1), (0, 1), (1, 1)), ((1, 2),) * 4
        mixed = ("costs", means, tuple([("chain", cover, chain[2]) for cover, chain in zip(covers, chains)]))
        self.assertIs(is_verdict(scheme, SQUARE, mixed), True)

    def test_bent_values(self):
        for scheme, lots in ((LONE, lone_lots(2)), (LONE, ((0,),)), (PAIR, lone_lots(2)), (ONE, ((0,),)), (MIX, lone_lots(2))):
            self.check_bent(is_verdict, (scheme, lots), own_verdict, verdict(scheme, lots), BENT)

    def test_values_of_every_kind(self):
        good = verdict(LONE, lone_lots(2))
        self.check_accepts(is_verdict, (LONE, lone_lots(2)), KINDS + FAR + [
            (), ("costs",), good[:2], good + ((),), list(good), ("Costs",) + good[1:], ("costs", good[1], ()), ("costs", list(good[1]), good[2]),
            ("costs", good[1], list(good[2])), ("costs", good[1], good[2][:1]), ("costs", good[1], good[2] * 2), ("costs", ((6, 4), (3, 2)), good[2]),
            ("costs", good[1][:1], good[2]), ("unseen",), right_answer(LONE), ("right", ()), good[2][0], ("costs", good[2], good[1]),
            eval(repr(good).replace("1", "True")),
        ])
        self.check_accepts(is_verdict, (LONE, ((0,),)), [good, ("costs", good[1]), ("costs", good[1], []), ("costs", good[1], None), ("costs", good[1], ((), ()))])
        self.assertIs(is_verdict(LONE, ((0,),), ("costs", good[1], ())), True)
        self.check_accepts(is_verdict, (ONE, ((0,),)), [right_answer(LONE), seen_answer(ONE, ((0,),)), ("unseen",), ("wrong", 0, 0, (0, 0)), ("wrong", 0, 0, (True, 2))])
        self.check_accepts(is_verdict, (PAIR, lone_lots(2)), [right_answer(PAIR), ("unseen",), ("costs", ONES, ()), ("wrong", 0, 0, (1, 0))])

    def test_errors(self):
        lots = (LOTS, no_lots(2) + [thirteen()])
        self.check_arguments(verdict, (PAIR, lone_lots(2)), [NO_SCHEME, lots])
        self.check_arguments(is_verdict, (PAIR, lone_lots(2), None), [NO_SCHEME, lots, None])

    def test_equal_calls(self):
        for scheme, lots in ((LONE, lone_lots(2)), (PAIR, lone_lots(2)), (ONE, ((0,),)), (sums_of_two(), lone_lots(2))):
            self.check_twice(verdict, [(scheme, lots)])
            self.check_twice(is_verdict, [(scheme, lots, verdict(scheme, lots))])
            self.check_twice(mean_rank, [(scheme, 1, (0,), (0,))])
        for scheme in (LONE, sums_of_two()):
            self.check_twice(chain_of, [(scheme, lone_lots(2), 1)])
            self.check_twice(is_chain, [(scheme, lone_lots(2), 1, chain_of(scheme, lone_lots(2), 1))])

    def test_not_true(self):
        """[14.7]"""
        all_twice = Scheme(2, 1, 2, 1, False, (((1, (((1, 1),) * 9,)),),) * 2)
        self.assertEqual(verdict(all_twice, ((0,),))[0], "wrong")
        self.assertGreater(mean(all_twice, 0), least_mean(1, ((0,),), 2, 1))
        twice = Scheme(2, 1, 1, 1, False, (((1, (((1,), (1,)),)),),))
        self.assertEqual([mean(twice, 0), mean_rank(twice, 0, (0,), ())], [(2, 1), (1, 1)])
        steps = chain_of(all_scheme(2, 4, 2, 1, 2), SQUARE, 0)[2]
        self.assertEqual(sum([Fraction(*some) for some in steps[0][2]]), 2 * Fraction(*steps[0][1]))
        one, other, both = ((1, 0),), ((0, 1),), ((1, 1),)
        wishes = (((1, (one, one)), (1, (other, both)), (1, (both, other))), ((1, (other, one)), (1, (one, both)), (1, (both, other))))
        scheme = Scheme(2, 2, 2, 1, False, wishes)
        wholes = [chain_of(scheme, lone_lots(2), wish)[2][0][0] for wish in (0, 1)]
        self.assertEqual(wholes, [(5, 3), (2, 1)])


if __name__ == "__main__":
    unittest.main()
