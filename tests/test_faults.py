"""Stage 8: what makes a scheme, and the first fault of what makes none."""

import itertools
import random
import unittest

from fetchunseen.scheme.schemes import Scheme, scheme_fault
from tests.shapes import LONE, MIXED, PAIR, TORN, bent, great_scheme, six, some_scheme
from tests.support import Errors, FAR, KINDS, NUMBERS, PRIMES, SCHEME, is_path, paths, put, shown

NAMES = ("prime", "houses", "books", "length", "is_mixed", "wishes")
OWN_PRIMES = {number for number in range(2, 9974) if all(number % by for by in range(2, int(number ** 0.5) + 1))}
# The pair of both coins of one wish, in one book of one letter at one house.
TINY = Scheme(2, 1, 1, 1, False, (((1, (((1,),),)), (2, (((0,), (1,)),))),))


def is_count(value, least, most):
    return type(value) is int and least <= value <= most


def is_tuple(value, many):
    return type(value) is tuple and len(value) == many


def own_coin(prime, houses, width, value):
    if not is_tuple(value, 2) or not is_count(value[0], 1, 10 ** 9) or not is_tuple(value[1], houses):
        return False
    if any([type(sums) is not tuple for sums in value[1]]) or sum([len(sums) for sums in value[1]]) > 100:
        return False
    rows = [row for sums in value[1] for row in sums]
    return all([is_tuple(row, width) and all([is_count(letter, 0, prime - 1) for letter in row]) for row in rows])


def own_fault(prime, houses, books, length, is_mixed, wishes):
    """The document's words, one behind the other."""
    if type(prime) is not int or prime not in OWN_PRIMES:
        return ("prime",)
    for name, value, most in (("houses", houses, 6), ("books", books, 4)):
        if not is_count(value, 1, most):
            return (name,)
    if not is_count(length, 1, 100) or books * length > 100:
        return ("length",)
    if type(is_mixed) is not bool:
        return ("mixed",)
    if not is_tuple(wishes, books):
        return ("wishes",)
    many = 0
    for wish, coins in enumerate(wishes):
        if type(coins) is not tuple or not 1 <= len(coins) <= 64:
            return ("wish", wish)
        for coin, some in enumerate(coins):
            if not own_coin(prime, houses, books * length, some):
                return ("coin", wish, coin)
            many += sum([len(sums) for sums in some[1]])
    return ("many",) if many > 400 else None


BENT = KINDS + FAR + [
    0, 1, 2, 3, 5, 7, 101, 10 ** 9, 10 ** 9 + 1, 9973, 9979, (), ((),), (((),),), ((), ()), (0,), (1, 0), (1, 1, 1), ((0,),),
    ((0, 0),), (((0, 0),),), (1, ()), (1, ((),)), (1, ((), ())), ((1, ((), ())),), (1, ((), ((0, True),))), [0, 0], ([0, 0],),
]


class TestFaults(Errors):
    """[8.1]"""

    def check(self, values):
        before = shown(values)
        wanted = own_fault(*values)
        told = scheme_fault(*values)
        self.assertEqual(shown(told), shown(wanted), before[:400])
        if wanted is None:
            made = Scheme(*values)
            self.assertEqual(shown([getattr(made, name) for name in NAMES]), shown(list(values)))
            self.assertIs(type(made.width), int)
            self.assertEqual(made.width, values[2] * values[3])
        else:
            self.check_error(Scheme, values, SCHEME(None))
        self.assertEqual(shown(values), before)
        return wanted

    def test_good(self):
        for scheme in (PAIR, LONE, MIXED, TORN, TINY):
            self.assertIsNone(self.check(six(scheme)))

    def test_each_place_alone(self):
        for scheme in (TINY, PAIR, MIXED, TORN):
            good, faults = six(scheme), set()
            for path in paths(good):
                for value in BENT:
                    faults.add(self.check(put(good, path, value)))
            self.assertGreaterEqual(len(faults), 7)

    def test_two_places_at_once(self):
        generator = random.Random(80)
        for scheme in (TINY, LONE):
            good = six(scheme)
            for first, second in itertools.permutations(paths(good), 2):
                one, other = generator.choice(BENT), generator.choice(BENT)
                both = put(good, first, one)
                if is_path(both, second):
                    self.check(put(both, second, other))

    def test_values_of_every_kind(self):
        for value in NUMBERS + PRIMES:
            self.check((value,) * 6)
            for name in NAMES:
                self.check(bent(PAIR, **{name: value}))

    def test_first_ones_by_name(self):
        wrong = {
            "prime": [4, True, 1, 0, 9979, "2"], "houses": [0, 7, True, None], "books": [0, 5, True, (2,)],
            "length": [0, 51, 100, False, 10 ** 60], "is_mixed": [0, 1, None, "False", ()], "wishes": [(), [], None, PAIR.wishes * 2],
        }
        faults = [("prime",), ("houses",), ("books",), ("length",), ("mixed",), ("wishes",)]
        for at, name in enumerate(NAMES):
            for value in wrong[name]:
                self.assertEqual(scheme_fault(*bent(PAIR, **{name: value})), faults[at])
                for later in NAMES[at + 1:]:
                    for other in wrong[later]:
                        self.assertEqual(scheme_fault(*bent(PAIR, **{name: value, later: other})), faults[at])

    def test_wish_by_wish(self):
        coin, good = (1, ((), ())), PAIR.wishes[0]
        bad = [(0, ((), ())), (1, ((),)), (True, ((), ())), (1, [(), ()]), (1, ((), ((2, 0),))), (1, ((), ((0,),))), None]
        for wrong in bad:
            for wishes, fault in (
                (((wrong,), good), ("coin", 0, 0)), ((good + (wrong,), ()), ("coin", 0, 2)), (((), (wrong,)), ("wish", 0)),
                ((good, (coin, wrong, wrong)), ("coin", 1, 1)), (([coin], good), ("wish", 0)), ((good, (coin,) * 65), ("wish", 1)),
                (((wrong,) * 65, (wrong,)), ("wish", 0)), (((coin,) * 63 + (wrong,), ()), ("coin", 0, 63)),
            ):
                self.assertEqual(scheme_fault(2, 2, 2, 1, False, wishes), fault)
                self.assertEqual(self.check((2, 2, 2, 1, True, wishes)), fault)

    def test_greatest_bounds(self):
        zeros, hundred = (0,) * 100, ((0,) * 100,) * 100
        full = (10 ** 9, (hundred[:50], (), (), (), (), hundred[:50]))
        for wishes, fault in (
            (((full,) * 4,), None), (((full,) * 4 + ((1, ((),) * 5 + ((zeros,),)),),), ("many",)), (((full,) * 5,), ("many",)),
            (((full,) * 4 + ((1, ((),) * 6),) * 60,), None), (((full,) * 4 + ((1, ((),) * 6),) * 61,), ("wish", 0)),
            ((((1, ((),) * 5 + (hundred + (zeros,),)),),), ("coin", 0, 0)),
            (((full,) * 64,), ("many",)), (((full,) * 64 + (None,),), ("wish", 0)), (((full,) * 63 + (None,),), ("coin", 0, 63)),
            ((((10 ** 9 + 1, full[1]),),), ("coin", 0, 0)), ((((0, full[1]),),), ("coin", 0, 0)),
        ):
            for prime in (2, 9973):
                self.assertEqual(self.check((prime, 6, 1, 100, True, wishes)), fault)
        quarter = (1, (((9972,) * 100,) * 100,))
        self.assertIsNone(self.check((9973, 1, 4, 25, False, ((quarter,),) * 4)))
        self.assertEqual(self.check((9967, 1, 4, 25, False, ((quarter,),) * 4)), ("coin", 0, 0))
        self.assertEqual(self.check((9973, 1, 4, 25, False, ((quarter,),) * 3 + ((quarter, quarter),))), ("many",))
        self.assertEqual(self.check((9973, 1, 4, 26, False, ((quarter,),) * 4)), ("length",))

    def test_some(self):
        generator = random.Random(81)
        for _ in range(300):
            shape = (generator.choice([2, 3, 5, 9973]), generator.randrange(1, 7), generator.randrange(1, 5), generator.randrange(1, 5))
            scheme = some_scheme(generator, *shape, generator.randrange(2) == 1)
            self.assertIsNone(self.check(six(scheme)))
            path = generator.choice(paths(six(scheme)))
            self.check(put(six(scheme), path, generator.choice(BENT)))
        for books, length in ((1, 100), (2, 50), (4, 25)):
            self.assertIsNone(self.check(six(great_scheme(generator, 9973, books, length, True))))


if __name__ == "__main__":
    unittest.main()
