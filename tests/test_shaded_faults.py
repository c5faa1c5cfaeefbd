"""Stage 19: what makes a shaded scheme, and the first fault of what makes none."""

import itertools
import random
import unittest

from fetchunseen.shade.shaded import Shaded, shaded_fault
from tests.shades import EVERY, OPENED, SEVEN, SHADE, SILENT, TWICE, bent_seven, great_shaded, seven, some_shaded
from tests.support import Errors, FAR, KINDS, NUMBERS, PRIMES, SHADED, is_path, paths, put, rebuilt, shown
from tests.test_faults import OWN_PRIMES, is_count, is_tuple

BENT = KINDS + FAR + [
    0, 1, 2, 3, 4, 5, 8, 9, 24, 25, 40, 41, 101, 9973, 9979, (), ((),), ((), ()), (((),),), (0,), (1,), (1, 0), (0, 1), (1, 1, 1), ((0,),), ((1, 0),),
    ((1, 0), (0, 1)), ((0, 1), (0, 1), (1, 1)), ((1, 0), (), ()), ((1,), (), ()), ((((1, 0), (), ()),),), (((), ()), ((),)), [0, 0], ([0, 0],),
]


def own_letters(prime, many, value):
    return is_tuple(value, many) and all([is_count(letter, 0, prime - 1) for letter in value])


def own_wish(prime, houses, width, length, drawn, shared, value):
    if not is_tuple(value, 2) or not is_tuple(value[0], houses) or any([type(asked) is not tuple for asked in value[0]]):
        return False
    asks = [ask for asked in value[0] for ask in asked]
    if len(asks) > 24:
        return False
    for ask in asks:
        if not is_tuple(ask, 3) or not own_letters(prime, width, ask[0]) or not own_letters(prime, shared, ask[2]):
            return False
        if not is_tuple(ask[1], drawn) or not all([own_letters(prime, width, row) for row in ask[1]]):
            return False
    return is_tuple(value[1], length) and all([own_letters(prime, len(asks), reading) for reading in value[1]])


def own_fault(prime, houses, books, length, drawn, shared, wishes):
    """The document's words, one behind the other."""
    if type(prime) is not int or prime not in OWN_PRIMES:
        return ("prime",)
    for name, value, least, most in (("houses", houses, 1, 6), ("books", books, 1, 4)):
        if not is_count(value, least, most):
            return (name,)
    if not is_count(length, 1, 100) or books * length > 100:
        return ("length",)
    for name, value, most in (("drawn", drawn, 40), ("shared", shared, 8)):
        if not is_count(value, 0, most):
            return (name,)
    if not is_tuple(wishes, books):
        return ("wishes",)
    for wish, told in enumerate(wishes):
        if not own_wish(prime, houses, books * length, length, drawn, shared, told):
            return ("wish", wish)
    return None


class TestFaults(Errors):
    """[19.1]"""

    def check(self, values):
        before = shown(values)
        wanted = own_fault(*values)
        told = shaded_fault(*values)
        self.assertEqual(shown(told), shown(wanted), before[:400])
        if wanted is None:
            made = Shaded(*values)
            self.assertEqual(shown([getattr(made, name) for name in SEVEN]), shown(list(values)))
            self.assertEqual(shown(made.sums), shown(tuple([sum([len(asked) for asked in asks]) for asks, _ in values[6]])))
        else:
            self.check_error(Shaded, values, SHADED(None))
        self.assertEqual(shown(values), before)
        return wanted

    def test_good(self):
        for scheme in (SHADE, OPENED, EVERY, SILENT, TWICE):
            self.assertIsNone(self.check(seven(scheme)))

    def test_each_place_alone(self):
        for scheme in (SHADE, OPENED, EVERY, SILENT, TWICE):
            good, faults = seven(scheme), set()
            for path in paths(good):
                for value in BENT:
                    faults.add(self.check(put(good, path, value)))
            self.assertGreaterEqual(len(faults), 7)

    def test_two_places_at_once(self):
        generator = random.Random(200)
        for scheme in (SHADE, SILENT, TWICE, OPENED):
            good = seven(scheme)
            for first, second in itertools.permutations(paths(good), 2):
                both = put(good, first, generator.choice(BENT))
                if is_path(both, second):
                    self.check(put(both, second, generator.choice(BENT)))

    def test_values_of_every_kind(self):
        for value in NUMBERS + PRIMES:
            self.check((value,) * 7)
            for name in SEVEN:
                self.check(bent_seven(SHADE, **{name: value}))

    def test_first_ones_by_name(self):
        wrong = {
            "prime": [4, True, 1, 0, 9979, "2"], "houses": [0, 7, True, None], "books": [0, 5, True, (2,)],
            "length": [0, 51, 100, False, 10 ** 60], "drawn": [-1, 41, True, None, 10 ** 60], "shared": [-1, 9, False, "1", (1,)],
            "wishes": [(), [], None, SHADE.wishes * 2],
        }
        for at, name in enumerate(SEVEN):
            for value in wrong[name]:
                self.assertEqual(shaded_fault(*bent_seven(SHADE, **{name: value})), (name,))
                for later in SEVEN[at + 1:]:
                    for other in wrong[later]:
                        self.assertEqual(shaded_fault(*bent_seven(SHADE, **{name: value, later: other})), (name,))
        good = SHADE.wishes[0]
        for wishes, wish in (((good, None), 1), ((None, good), 0), ((None, None), 0), ((good, good[:1]), 1), ((good + ((),), good[:1]), 0), ([good] * 2, None)):
            self.assertEqual(shaded_fault(*bent_seven(SHADE, wishes=wishes)), ("wishes",) if wish is None else ("wish", wish))

    def test_greatest_bounds(self):
        generator = random.Random(201)
        scheme = great_shaded(generator, 9973, 4, 25)
        self.assertIsNone(self.check(seven(scheme)))
        self.assertEqual(scheme.sums, (24,) * 4)
        asks, readings = scheme.wishes[3]
        more = asks[:5] + (asks[5] + asks[5][:1],)
        longer = tuple([reading + (0,) for reading in readings])
        self.assertEqual(self.check(bent_seven(scheme, wishes=scheme.wishes[:3] + ((more, longer),))), ("wish", 3))
        self.assertEqual(self.check(bent_seven(scheme, wishes=scheme.wishes[:3] + ((asks, longer),))), ("wish", 3))
        fewer = asks[:5] + (asks[5][:-1],)
        self.assertIsNone(self.check(bent_seven(scheme, wishes=scheme.wishes[:3] + ((fewer, tuple([reading[:-1] for reading in readings])),))))
        for name, value, fault in (("drawn", 39, ("wish", 0)), ("drawn", 41, ("drawn",)), ("shared", 7, ("wish", 0)), ("shared", 9, ("shared",)),
                                   ("length", 26, ("length",)), ("length", 24, ("wish", 0)), ("prime", 9967, ("wish", 0)), ("houses", 5, ("wish", 0))):
            self.assertEqual(self.check(bent_seven(scheme, **{name: value})), fault)
        zeros = (0,) * 100
        ask = (zeros, (zeros,) * 40, (0,) * 8)
        self.assertIsNone(self.check((2, 1, 1, 100, 40, 8, ((((ask,) * 24,), ((0,) * 24,) * 100),))))
        self.assertEqual(self.check((2, 1, 1, 100, 40, 8, ((((ask,) * 25,), ((0,) * 25,) * 100),))), ("wish", 0))
        self.assertEqual(self.check((2, 1, 1, 101, 40, 8, ((((ask,) * 24,), ((0,) * 24,) * 101),))), ("length",))

    def test_some(self):
        generator = random.Random(202)
        for _ in range(200):
            shape = (generator.choice([2, 3, 5, 9973]), generator.randrange(1, 7), generator.randrange(1, 5), generator.randrange(1, 4))
            scheme = some_shaded(generator, *shape, generator.randrange(4), generator.randrange(4))
            self.assertIsNone(self.check(seven(scheme)))
            self.check(put(seven(scheme), generator.choice(paths(seven(scheme))), generator.choice(BENT)))


class TestClass(Errors):
    def test_equal(self):
        for scheme in (SHADE, OPENED, EVERY, SILENT, TWICE):
            self.assertTrue(scheme == rebuilt(scheme))
            self.assertFalse(scheme != rebuilt(scheme))
            for value in KINDS + FAR + [seven(scheme), scheme.wishes, None]:
                self.assertFalse(scheme == value)
                self.assertTrue(scheme != value)
            with self.assertRaises(TypeError):
                iter(scheme)
        every = [SHADE, Shaded(*bent_seven(SHADE, prime=5)), Shaded(*bent_seven(SHADE, wishes=SHADE.wishes[::-1])), OPENED, EVERY, SILENT, TWICE]
        every += [Shaded(*bent_seven(SILENT, prime=3)), Shaded(*bent_seven(SILENT, drawn=3)), Shaded(*bent_seven(SILENT, shared=0)),
                  Shaded(2, 1, 2, 1, 1, 1, ((((),), ((),)),) * 2)]
        for one, other in itertools.combinations(every, 2):
            self.assertFalse(one == other)
            self.assertTrue(one != other)


if __name__ == "__main__":
    unittest.main()
