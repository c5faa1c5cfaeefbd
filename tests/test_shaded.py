"""Stage 19: schemes that show no other book."""

import itertools
import random
import unittest
from fractions import Fraction

from fetchunseen.base.fields import next_prime
from fetchunseen.books.library import Library
from fetchunseen.bound.least import least_mean, least_shown, scale
from fetchunseen.lots.lots import all_lots, lone_lots
from fetchunseen.lots.weights import parts_of
from fetchunseen.scheme.schemes import Scheme
from fetchunseen.shade.shaded import Shaded, is_right_shaded, is_unseen_shaded, run_at, sent_at, shaded_scheme, shows_other
from tests.shades import EVERY, OPENED, SHADE, SILENT, TWICE, bent_seven, great_shaded, own_run, own_sees, own_sent, seven, some_shaded, try_all
from tests.shapes import PAIR, all_libraries, every_lot, rank_by_hand
from tests.support import Errors, LIBRARY, LOTS, OPERATION, PRIMES, SHADED, all_rows, beyond, made_of, no_letters, number, others_than
from tests.support import paths, put, refused, some_rows, too_many
from tests.test_lots import every_lots, no_lots, own_free, some_lots, thirteen
from tests.test_weights import RING, WHEEL

PRIME = (number, PRIMES)
HOUSES = (number, beyond(7) + [0])
BOOKS = (number, beyond(5) + [0, 1])
NO_SHADED = (SHADED, others_than(Shaded) + [seven(SHADE), SHADE.wishes, PAIR])
KNOWN = [SHADE, OPENED, EVERY, SILENT, TWICE]


def small_made():
    return [shaded_scheme(2, 2, lone_lots(2), 2), shaded_scheme(3, 2, lone_lots(2), 2), shaded_scheme(2, 3, ((0, 1), (2,)), 3),
            shaded_scheme(3, 3, all_lots(3, 2), 2), shaded_scheme(2, 2, lone_lots(2), 4)]


def own_right(scheme):
    """[19.2], by rows of the test's own."""
    for wish in range(scheme.books):
        asks = [row + tuple([letter for some in rows for letter in some]) + weights for asked in scheme.wishes[wish][0] for row, rows, weights in asked]
        wide = scheme.books * scheme.length * (1 + scheme.drawn) + scheme.shared
        for at, reading in enumerate(scheme.wishes[wish][1]):
            wanted = tuple([int(place == wish * scheme.length + at) for place in range(wide)])
            if made_of(scheme.prime, wide, asks, reading) != wanted:
                return False
    return True


def own_unseen(scheme, lots):
    """[19.3], by ranks of the test's own."""
    for lot, wish in itertools.product(lots, range(1, scheme.books)):
        first, other = [[ask for house in lot for ask in scheme.wishes[some][0][house]] for some in (0, wish)]
        counts = [[[ask[2] for ask in scheme.wishes[some][0][house]] for house in lot] for some in (0, wish)]
        if counts[0] != counts[1]:
            return False
        rows, others = [[[letter for ask in asks for letter in ask[1][at]] for at in range(scheme.drawn)] for asks in (first, other)]
        less = [(a - b) % scheme.prime for one, two in zip(first, other) for a, b in zip(one[0], two[0])]
        ranks = {rank_by_hand(scheme.prime, some) for some in (rows, others, rows + others, rows + [less])}
        if len(ranks) != 1:
            return False
    return True


def own_shows(scheme):
    """[19.4], by all relations of the weights."""
    width = scheme.books * scheme.length
    for wish in range(scheme.books):
        asks = [ask for asked in scheme.wishes[wish][0] for ask in asked]
        for letters in all_rows(scheme.prime, len(asks)):
            if any(made_of(scheme.prime, scheme.shared, [ask[2] for ask in asks], letters)):
                continue
            for at in range(-1, scheme.drawn):
                row = made_of(scheme.prime, width, [ask[0] if at < 0 else ask[1][at] for ask in asks], letters)
                if any(row[:wish * scheme.length] + row[(wish + 1) * scheme.length:]):
                    return True
    return False


class Shades(Errors):
    def check_scheme(self, scheme):
        """All three judges, by trying all that can be drawn, shared and held."""
        is_right, is_shown = try_all(scheme)
        self.assertIs(is_right_shaded(scheme), is_right)
        self.assertIs(shows_other(scheme), is_shown)
        self.assertIs(own_right(scheme), is_right)
        self.assertIs(own_shows(scheme), is_shown)
        seeing = [lot for lot in every_lot(scheme.houses) if own_sees(scheme, lot)]
        for lot in every_lot(scheme.houses):
            self.assertIs(is_unseen_shaded(scheme, (lot,)), lot not in seeing)
            self.assertIs(own_unseen(scheme, (lot,)), lot not in seeing)
        self.check_bound(scheme, is_right, is_shown, [lot for lot in every_lot(scheme.houses) if lot not in seeing])
        return is_right, not seeing, is_shown

    def check_run(self, scheme, wish, drawn, shared, library):
        self.assertEqual(sent_at(scheme, wish, drawn), own_sent(scheme, wish, drawn))
        self.assertEqual(run_at(scheme, wish, drawn, shared, library), own_run(scheme, wish, drawn, shared, library))

    def check_bound(self, scheme, is_right, is_shown, blind):
        """[19.5]: no such scheme needs less."""
        if not is_right or is_shown or scheme.books == 1:
            return
        lots = tuple(blind[-12:])
        least = least_shown(scheme.houses, lots, scheme.length)
        self.assertIsNotNone(least)
        self.assertGreaterEqual(min(scheme.sums), Fraction(*least[0]))
        self.assertGreaterEqual(scheme.shared, Fraction(*least[1]))


class TestJudges(Shades):
    """[19.2], [19.3], [19.4]"""

    def test_known(self):
        self.assertEqual([self.check_scheme(scheme) for scheme in KNOWN], [
            (True, False, False), (True, False, False), (True, True, True), (False, True, False), (True, True, False)])
        for scheme in small_made():
            self.assertEqual(self.check_scheme(scheme), (True, False, False))

    def test_some(self):
        generator, told = random.Random(210), []
        for _ in range(400):
            shape = generator.choice([(2, 2, 2, 1, 2, 1), (2, 2, 2, 1, 0, 2), (3, 2, 2, 1, 1, 1), (2, 3, 2, 1, 1, 0), (2, 2, 3, 1, 2, 1), (2, 2, 1, 2, 1, 1),
                                      (2, 2, 2, 1, 0, 0), (3, 1, 2, 1, 2, 0), (2, 1, 2, 2, 1, 1), (5, 2, 2, 1, 1, 0)])
            told.append(self.check_scheme(some_shaded(generator, *shape)))
        for at, least in enumerate((0, 5, 5)):
            found = [some[at] for some in told]
            self.assertGreater(min(found.count(True), found.count(False)), least)

    def test_bent(self):
        """One letter of one ask or reading changed."""
        generator, told = random.Random(211), []
        for scheme in KNOWN + small_made()[:4]:
            places = [path for path in paths(scheme.wishes) if len(path) in (3, 4, 5, 6, 7)]
            letters = [path for path in places if isinstance(self.value_at(scheme.wishes, path), int)]
            for path in generator.sample(letters, min(14, len(letters))):
                value = generator.randrange(scheme.prime)
                bent = Shaded(*bent_seven(scheme, wishes=put(scheme.wishes, path, value)))
                told.append(self.check_scheme(bent))
        self.assertGreaterEqual(len(set(told)), 4)

    def value_at(self, value, path):
        for at in path:
            value = value[at]
        return value

    def test_all_of_one_ask(self):
        """All schemes of one ask at one house for each of two wishes, one drawn and one shared letter."""
        counted = {}
        rows = all_rows(2, 2)
        for one, other in itertools.product(itertools.product(rows, rows, (0, 1)), repeat=2):
            wishes = tuple([((((row, (drawn,), (weight,)),),), ((1,),)) for row, drawn, weight in (one, other)])
            told = self.check_scheme(Shaded(2, 1, 2, 1, 1, 1, wishes))
            counted[told] = counted.get(told, 0) + 1
        self.assertEqual(sum(counted.values()), 1024)
        self.assertGreaterEqual(len(counted), 4)

    def test_many_lots(self):
        """Unseen by lots just if by each of them."""
        generator = random.Random(212)
        for scheme in KNOWN + small_made():
            blind = [lot for lot in every_lot(scheme.houses) if is_unseen_shaded(scheme, (lot,))]
            for _ in range(10):
                lots = some_lots(generator, scheme.houses, generator.randrange(6))
                self.assertIs(is_unseen_shaded(scheme, lots), all([lot in blind for lot in lots]))

    def test_other_drawn_rows(self):
        """The same span by other rows is seen no better."""
        made = shaded_scheme(5, 3, lone_lots(3), 2)
        asks, readings = made.wishes[1]
        turned = tuple([tuple([(row, rows[1:] + (tuple([3 * letter % 5 for letter in rows[0]]),), weights) for row, rows, weights in asked]) for asked in asks])
        other = Shaded(*bent_seven(made, wishes=(made.wishes[0], (turned, readings))))
        self.assertIs(is_unseen_shaded(other, lone_lots(3)), True)
        self.assertIs(is_right_shaded(other), True)
        self.assertIs(shows_other(other), False)
        less = tuple([tuple([(row, rows[1:] + rows[1:2], weights) for row, rows, weights in asked]) for asked in asks])
        fewer = Shaded(*bent_seven(made, wishes=(made.wishes[0], (less, readings))))
        self.assertIs(is_unseen_shaded(fewer, lone_lots(3)), False)
        self.assertIs(own_unseen(fewer, lone_lots(3)), False)

    def test_great(self):
        generator = random.Random(213)
        lots = tuple(itertools.combinations(range(6), 4))[:12]
        for same in (True, False):
            scheme = great_shaded(generator, 9973, 4, 25, same)
            self.assertIs(self.check_within(10, is_right_shaded, scheme), False)
            self.assertIs(self.check_within(30, is_unseen_shaded, scheme, lots), True)
            self.assertIs(own_unseen(scheme, lots[:1]), True)
            self.assertIs(self.check_within(10, shows_other, scheme), True)
        asks, readings = scheme.wishes[2]
        bent = put(asks, (5, 3, 1, 39, 99), (asks[5][3][1][39][99] + 1) % 9973)
        other = Shaded(*bent_seven(scheme, wishes=scheme.wishes[:2] + ((bent, readings),) + scheme.wishes[3:]))
        self.assertIs(self.check_within(30, is_unseen_shaded, other, ((5,),)), False)
        self.assertIs(self.check_within(30, is_unseen_shaded, other, ((0, 1, 2, 3, 4),)), True)
        self.check_run(scheme, 3, *[some_rows(generator, 9973, 1, many)[0] for many in (40, 8)], Library(9973, some_rows(generator, 9973, 4, 25)))


class TestRuns(Shades):
    """[19.1]"""

    def test_all_runs(self):
        for scheme in KNOWN + small_made()[:2]:
            for wish, library in itertools.product(range(scheme.books), all_libraries(scheme.prime, scheme.books, scheme.length)):
                for drawn, shared in itertools.product(all_rows(scheme.prime, scheme.drawn), all_rows(scheme.prime, scheme.shared)):
                    self.check_run(scheme, wish, drawn, shared, library)

    def test_some_runs(self):
        generator = random.Random(214)
        for _ in range(150):
            prime, books, length = generator.choice([2, 3, 97, 9973]), generator.randrange(1, 5), generator.randrange(1, 5)
            scheme = some_shaded(generator, prime, generator.randrange(1, 7), books, length, generator.randrange(5), generator.randrange(5))
            drawn, shared = [some_rows(generator, prime, 1, many)[0] for many in (scheme.drawn, scheme.shared)]
            library = Library(prime, some_rows(generator, prime, books, length))
            self.check_run(scheme, generator.randrange(books), drawn, shared, library)

    def test_made_runs(self):
        """What is made fetches the wished book, and nothing else is told."""
        generator = random.Random(215)
        for houses, lots, books in ((3, lone_lots(3), 2), (3, RING, 3), (6, all_lots(6, 5), 4), (6, lone_lots(6), 4), (4, ((0, 1), (2,), (3,)), 2)):
            scheme = shaded_scheme(9973, houses, lots, books)
            for wish in range(books):
                drawn, shared = [some_rows(generator, 9973, 1, many)[0] for many in (scheme.drawn, scheme.shared)]
                library = Library(9973, some_rows(generator, 9973, books, scheme.length))
                answers, told = run_at(scheme, wish, drawn, shared, library)
                self.assertEqual(told, library.books[wish])
                self.assertEqual(sum([len(some) for some in answers]), scheme.sums[wish])

    def test_errors(self):
        drawn = (OPERATION, no_letters(3) + [(), (1,), (1, 2, 0), (1, 3), (1, 2) * 50])
        shared = (OPERATION, no_letters(3) + [(), (1, 2), (3,)])
        wish = (number, beyond(2))
        library = Library(3, ((2,), (1,)))
        self.check_arguments(sent_at, (SHADE, 0, (1, 2)), [NO_SHADED, wish, drawn])
        wrong = [NO_SHADED, wish, drawn, shared, (LIBRARY, others_than(Library) + [((2,), (1,))])]
        self.check_arguments(run_at, (SHADE, 0, (1, 2), (1,), library), wrong)
        for other in (Library(5, ((2,), (1,))), Library(3, ((2,),)), Library(3, ((2,), (1,), (0,))), Library(3, ((2, 1), (1, 0)))):
            self.check_error(run_at, (SHADE, 0, (1, 2), (1,), other), OPERATION(None))
        self.check_error(run_at, (SHADE, 0, (1, 2), (1, 2), 7), OPERATION(None))
        self.check_error(sent_at, (OPENED, 0, (1,)), OPERATION(None))
        self.assertEqual(sent_at(OPENED, 0, ()), ((), ((1, 0),)))
        self.assertEqual(sent_at(SILENT, 1, (1,)), ((), ()))
        self.assertEqual(run_at(SILENT, 1, (1,), (0,), Library(2, ((1,), (1,)))), (((), ()), (0,)))


class TestMade(Shades):
    """[19.5]"""

    def check_made(self, prime, houses, lots, books):
        scheme = shaded_scheme(prime, houses, lots, books)
        parts, most = parts_of(houses, lots)
        many = sum(parts)
        self.assertEqual((scheme.prime, scheme.houses, scheme.books), (prime, houses, books))
        self.assertEqual((scheme.length, scheme.sums, scheme.shared), (many - most, (many,) * books, most))
        self.assertEqual(((many, 1), (most, 1)), least_shown(houses, lots, scheme.length))
        self.assertIs(is_right_shaded(scheme), True)
        self.assertIs(own_right(scheme), True)
        self.assertIs(is_unseen_shaded(scheme, lots), True)
        self.assertIs(own_unseen(scheme, lots), True)
        self.assertIs(shows_other(scheme), False)
        if prime ** many <= 5000:
            self.assertIs(own_shows(scheme), False)
        return scheme

    def check_lots(self, houses, lots, books):
        free = own_free(houses, lots)
        if free:
            self.check_error(shaded_scheme, (2, houses, lots, books), refused("free", free[0]))
            return 0
        parts, most = parts_of(houses, lots)
        many = sum(parts)
        if many == most:
            self.check_error(shaded_scheme, (2, houses, lots, books), refused("all"))
            return 0
        for prime in (2, 3, 5):
            if prime < many:
                self.check_error(shaded_scheme, (prime, houses, lots, books), refused("prime", many))
        self.check_made(next_prime(many), houses, lots, books)
        return 1

    def test_up_to_four_houses(self):
        made = 0
        for houses in (1, 2, 3):
            for lots in every_lots(houses):
                made += sum([self.check_lots(houses, lots, books) for books in (2, 3, 4)])
        for lots in list(every_lots(4, 6))[::23]:
            made += self.check_lots(4, lots, 2 + len(lots) % 3)
        self.assertGreater(made, 250)

    def test_more_houses(self):
        generator = random.Random(216)
        for houses, many in itertools.product((5, 6), range(3, 13)):
            for _ in range(4):
                lots = some_lots(generator, houses, many)
                try:
                    if not own_free(houses, lots):
                        parts_of(houses, lots)
                except OverflowError:
                    self.check_error(shaded_scheme, (2, houses, lots, 2), too_many(6))
                    continue
                self.check_lots(houses, lots, generator.choice([2, 3, 4]))

    def test_great(self):
        for lots in (lone_lots(6), all_lots(6, 5), ((0, 1, 2), (3, 4, 5)), ((0, 1), (2, 3), (4, 5))):
            for prime in (7, 9973):
                self.check_made(prime, 6, lots, 4)
        twelve = tuple(sorted(list(all_lots(6, 5)) + [(house, 5) for house in range(5)] + [()]))
        self.check_made(7, 6, twelve, 4)
        self.assertEqual(shaded_scheme(7, 6, ((0, 1, 2), (0, 4, 5), (1, 3, 5), (2, 3, 4)), 4).sums, (2,) * 4)

    def test_least_primes(self):
        for houses in range(2, 7):
            self.check_made(next_prime(houses), houses, lone_lots(houses), 3)
            if next_prime(houses) > 2 and houses > 2:
                self.check_error(shaded_scheme, (2, houses, lone_lots(houses), 3), refused("prime", houses))
        for prime in (2, 3, 5):
            self.check_error(shaded_scheme, (prime, 6, lone_lots(6), 2), refused("prime", 6))

    def test_errors(self):
        self.check_arguments(shaded_scheme, (5, 3, RING, 2), [PRIME, HOUSES, (LOTS, no_lots(3) + [thirteen()]), BOOKS])
        self.check_error(shaded_scheme, (2, 5, WHEEL, 2), too_many(6))
        self.check_error(shaded_scheme, (2, 5, WHEEL, 1), number(1))
        self.check_error(shaded_scheme, (2, 3, ((0, 1, 2),), 2), refused("all"))
        self.check_error(shaded_scheme, (2, 3, ((0, 1),), 2), refused("free", 2))
        self.check_error(shaded_scheme, (2, 3, (), 4), refused("free", 0))
        lots = (LOTS, no_lots(2) + [thirteen()])
        self.check_arguments(is_unseen_shaded, (SHADE, ((0,), (1,))), [NO_SHADED, lots])
        self.check_arguments(is_right_shaded, (SHADE,), [NO_SHADED])
        self.check_arguments(shows_other, (SHADE,), [NO_SHADED])


class TestCalls(Errors):
    def test_equal_calls(self):
        made = shaded_scheme(5, 3, RING, 3)
        self.check_twice(shaded_scheme, [(5, 3, RING, 3)])
        self.check_twice(sent_at, [(SHADE, 1, (2, 2)), (made, 2, (1,) * made.drawn)])
        self.check_twice(run_at, [(SHADE, 1, (2, 2), (0,), Library(3, ((2,), (1,))))])
        for function in (is_right_shaded, shows_other):
            self.check_twice(function, [(SHADE,), (EVERY,), (made,)])
        self.check_twice(is_unseen_shaded, [(SHADE, ((0,), (1,))), (SHADE, ((0, 1),))])

    def test_not_true(self):
        """[19.6]"""
        self.assertEqual({shaded_scheme(5, 3, RING, books).sums[0] for books in (2, 3, 4)}, {3})
        self.assertEqual([is_unseen_shaded(EVERY, ((0,),)), shows_other(EVERY)], [True, True])
        self.assertEqual([OPENED.shared, is_right_shaded(OPENED), shows_other(OPENED)], [0, True, False])

    def test_free_house(self):
        """[0.17]: with a free house L and 0 are enough, and this is the least mean from the start."""
        self.assertIs(is_unseen_shaded(OPENED, ((0,),)), True)
        self.assertEqual(least_shown(2, ((0,),), 1), ((1, 1), (0, 1)))
        self.assertEqual([(many, 1) for many in OPENED.sums], [least_mean(2, ((0,),), 2, 1)] * 2)
        self.assertIsNone(scale(2, ((0,),)))
        self.assertNotIsInstance(OPENED, Scheme)


if __name__ == "__main__":
    unittest.main()
