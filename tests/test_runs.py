"""Stage 12: runs."""

import itertools
import random
import unittest
from collections import Counter
from fractions import Fraction

from fetchunseen.books.library import Library
from fetchunseen.scheme import runs as module
from fetchunseen.scheme.right import wrong_coins
from fetchunseen.scheme.runs import answers_to, asked_by, coin_at, draws, fetched, views
from fetchunseen.scheme.schemes import Scheme, all_scheme, open_scheme
from fetchunseen.scheme.sight import shares, sight
from fetchunseen.scheme.tables import leading_count, table_at, table_count
from tests.shapes import LONE, MIX, MIXED, PAIR, TORN, all_libraries, bent, book_at, every_lot, great_scheme, own_sums, six
from tests.shapes import some_scheme
from tests.support import ANSWERS, Errors, FAR, KINDS, LIBRARY, LOTS, OPERATION, ROWS, SCHEME, all_rows, beyond, made_of, no_letters
from tests.support import no_lot, number, objects, others_than, refused, shown, told, too_many
from tests.test_library import some_library

NO_SCHEME = (SCHEME, others_than(Scheme) + [six(PAIR), PAIR.wishes])
# Two letters for each book, so that tables change more than a factor.
WIDE = Scheme(2, 2, 2, 2, True, (
    ((2, (((1, 0, 0, 0), (0, 1, 1, 1)), ((0, 0, 1, 1),))), (1, (((1, 1, 0, 1),), ((0, 1, 0, 0), (0, 0, 0, 1))))),
    ((1, (((0, 0, 1, 0), (1, 1, 0, 1)), ((1, 1, 0, 0),))),),
))


def small_times(scheme, most=3):
    """The same scheme with few draws."""
    wishes = [tuple([(1 + times % most, asks) for times, asks in coins]) for coins in scheme.wishes]
    return Scheme(*bent(scheme, wishes=tuple(wishes)))


def own_draws(scheme, wish):
    """All draws in their sequence: pairs of a coin and the tables."""
    tables = [table_at(scheme.prime, scheme.length, at) for at in range(table_count(scheme.prime, scheme.length))]
    mixes = list(itertools.product(tables, repeat=scheme.books)) if scheme.is_mixed else [()]
    coins = [coin for coin, (times, _) in enumerate(scheme.wishes[wish]) for _ in range(times)]
    return [(coin, mix) for coin in coins for mix in mixes]


def own_sent(scheme, wish, coin, tables):
    sent = []
    for sums in scheme.wishes[wish][coin][1]:
        rows = []
        for row in sums:
            parts = [book_at(scheme.length, row, book) for book in range(scheme.books)]
            if tables:
                parts = [made_of(scheme.prime, scheme.length, table, part) for part, table in zip(parts, tables)]
            rows.append(tuple([letter for part in parts for letter in part]))
        sent.append(tuple(rows))
    return tuple(sent)


def own_answers(library, asks):
    return tuple([told(library.prime, row, library.row) for rows in asks for row in rows])


def small_schemes(seed, many):
    generator = random.Random(seed)
    for _ in range(many):
        shape = generator.choice([(2, 2, 2, 1), (2, 3, 2, 2), (3, 2, 2, 1), (2, 6, 3, 1), (3, 2, 1, 2), (5, 2, 2, 1), (2, 2, 1, 2), (2, 1, 1, 1)])
        yield small_times(some_scheme(generator, *shape, generator.randrange(2) == 1))


class TestDraws(Errors):
    """[12.1], [12.2]"""

    def test_constant(self):
        self.assertEqual(module.MOST_VIEWS, 2000)

    def check_scheme(self, scheme):
        before = shown(scheme)
        for wish in range(scheme.books):
            every = own_draws(scheme, wish)
            self.assertEqual(draws(scheme, wish), len(every))
            for draw, (coin, tables) in enumerate(every):
                self.assertEqual(coin_at(scheme, wish, draw), (coin, tables))
                self.assertEqual(asked_by(scheme, wish, draw), own_sent(scheme, wish, coin, tables))
            self.check_error(coin_at, (scheme, wish, len(every)), number(len(every)))
            self.check_error(asked_by, (scheme, wish, len(every) + 1), number(len(every) + 1))
        self.assertEqual(shown(scheme), before)

    def test_small(self):
        for scheme in (PAIR, LONE, MIX, WIDE):
            self.check_scheme(scheme)
        for scheme in small_schemes(120, 80):
            self.check_scheme(scheme)

    def test_times(self):
        scheme = Scheme(5, 1, 1, 1, True, (((3, ((),)), (10 ** 9, (((2,),),)), (1, (((0,),),))),))
        every = (10 ** 9 + 4) * 4
        self.assertEqual(draws(scheme, 0), every)
        for draw, coin in ((0, 0), (11, 0), (12, 1), (every - 5, 1), (every - 4, 2), (every - 1, 2)):
            self.assertEqual(coin_at(scheme, 0, draw), (coin, (((draw % 4 + 1,),),)))
        plain = Scheme(*bent(scheme, is_mixed=False))
        for draw, coin in ((0, 0), (2, 0), (3, 1), (10 ** 9 + 2, 1), (10 ** 9 + 3, 2)):
            self.assertEqual(coin_at(plain, 0, draw), (coin, ()))
        self.check_error(coin_at, (plain, 0, 10 ** 9 + 4), number(10 ** 9 + 4))

    def test_long_draws(self):
        generator = random.Random(121)
        for books, length in ((4, 25), (1, 100), (2, 50)):
            scheme = great_scheme(generator, 9973, books, length, True)
            count = table_count(9973, length)
            every = sum([times for times, _ in scheme.wishes[-1]]) * count ** books
            self.assertEqual(draws(scheme, books - 1), every)
            for draw in (0, every - 1, 10 ** 60, generator.randrange(every)):
                coin, tables = self.check_within(20, coin_at, scheme, books - 1, draw)
                left, rest = divmod(draw, count ** books)
                self.assertEqual(coin, 0 if left < scheme.wishes[-1][0][0] else 1 + (left - scheme.wishes[-1][0][0]) // scheme.wishes[-1][1][0])
                self.assertEqual(len(tables), books)
                digits = [rest // count ** (books - 1 - book) % count for book in range(books)]
                self.assertEqual(tables[0], table_at(9973, length, digits[0]))
                self.assertEqual(tables[-1], table_at(9973, length, digits[-1]))
            sent = self.check_within(20, asked_by, scheme, books - 1, draw)
            self.assertEqual(sent, own_sent(scheme, books - 1, coin, tables))
            library = some_library(generator, 9973, books, length)
            answers = self.check_within(20, answers_to, library, sent)
            self.assertEqual(self.check_within(20, fetched, scheme, books - 1, draw, answers), library.books[-1])
            self.check_error(fetched, (scheme, books - 1, every, answers), number(every))

    def test_errors(self):
        draw = KINDS + FAR + [(), (3,), 2, 3, 10 ** 59]
        for function in (coin_at, asked_by):
            self.check_arguments(function, (PAIR, 1, 1), [NO_SCHEME, (number, beyond(2)), (number, draw)])
        self.check_arguments(draws, (PAIR, 1), [NO_SCHEME, (number, beyond(2))])


class TestAnswers(Errors):
    def test_small(self):
        for scheme in [PAIR, LONE, MIX, WIDE] + list(small_schemes(122, 30)):
            for library in all_libraries(scheme.prime, scheme.books, scheme.length)[::3]:
                for wish in range(scheme.books):
                    for _, asks in scheme.wishes[wish]:
                        self.assertEqual(answers_to(library, asks), own_answers(library, asks))
        self.assertEqual([answers_to(Library(5, ((1,),)), ((),) * many) for many in range(1, 7)], [()] * 6)

    def test_great(self):
        generator = random.Random(123)
        library = some_library(generator, 9973, 1, 100)
        rows = tuple([some_library(generator, 9973, 1, 100).row for _ in range(100)])
        for asks in ((rows,), ((), rows[:50], (), (), (), rows[50:]), (rows[:1], (), rows[1:])):
            self.assertEqual(answers_to(library, asks), tuple([told(9973, row, library.row) for row in rows]))
            self.check_error(answers_to, (library, asks[:-1] + (asks[-1] + rows[:1],)), ROWS(None))

    def test_errors(self):
        library = Library(5, ((1, 2), (3, 4)))
        asks = KINDS + FAR + [
            3, (), ((),) * 7, ((0,) * 4,), (((0,) * 4, (0,) * 3),), (((0,) * 4,), ((0,) * 3,)), (((0, 0, 0, 5),),), (((0, 0, 0, True),),),
            (((0, 0, 0, -1),),), [((0,) * 4,)], ([(0,) * 4],), (([0] * 4,),), (((),),), (((0,) * 101,),), (((0,) * 4,) * 101,), (0,), ((0,),),
            (((0,) * 4,) * 51, ((0,) * 4,) * 50), ("0000",), (("0000",),), (None,), ({},), (((0, 0, 0, 10 ** 60),),), ((((0,) * 4,),),),
        ]
        self.check_arguments(answers_to, (library, (((0,) * 4,), ())), [(LIBRARY, others_than(Library)), (ROWS, asks)])
        for rows in ((((0,) * 3,),), ((), ((0,),)), (((0,) * 5,) * 100,), ((), (), ((0,) * 100,))):
            self.check_error(answers_to, (library, rows), OPERATION(None))


class TestFetched(Errors):
    """[12.3]: whatever the library and the draw."""

    def check_scheme(self, scheme):
        wrong, before = wrong_coins(scheme), shown(scheme)
        read = 0
        for wish in range(scheme.books):
            for draw, (coin, tables) in enumerate(own_draws(scheme, wish)):
                sent = own_sent(scheme, wish, coin, tables)
                for library in all_libraries(scheme.prime, scheme.books, scheme.length):
                    arguments = (scheme, wish, draw, own_answers(library, sent))
                    if (wish, coin) in wrong:
                        self.check_error(fetched, arguments, refused("wrong", wish, coin))
                    else:
                        self.assertEqual(fetched(*arguments), library.books[wish])
                        read += 1
        self.assertEqual(shown(scheme), before)
        return read

    def test_small(self):
        for scheme in (PAIR, LONE, MIX):
            self.assertGreater(self.check_scheme(scheme), 0)
        wide = small_times(WIDE, 1)
        self.assertGreater(self.check_scheme(wide), 1000)
        read = 0
        for scheme in small_schemes(124, 40):
            read += self.check_scheme(small_times(scheme, 1)) if scheme.length == 1 else 0
        self.assertGreater(read, 500)

    def test_plain_and_mixed(self):
        for is_mixed in (False, True):
            for made in (open_scheme(3, 2, 2, 1, 1), all_scheme(2, 1, 1, 2, 0), all_scheme(5, 3, 2, 1, 2)):
                self.assertGreater(self.check_scheme(Scheme(*bent(made, is_mixed=is_mixed))), 0)

    def test_no_library_answers_so(self):
        for scheme in [PAIR, MIX, Scheme(3, 2, 1, 2, True, (((1, (((1, 1), (2, 2)), ((0, 1),))), (1, (((1, 0), (1, 0)), ()))),))]:
            for wish in range(scheme.books):
                for draw, (coin, tables) in list(enumerate(own_draws(scheme, wish)))[::7]:
                    sent = own_sent(scheme, wish, coin, tables)
                    told_ones = {own_answers(library, sent) for library in all_libraries(scheme.prime, scheme.books, scheme.length)}
                    for answers in all_rows(scheme.prime, len(own_sums(scheme, wish, coin))):
                        if answers not in told_ones:
                            self.check_error(fetched, (scheme, wish, draw, answers), ANSWERS(None))

    def test_errors(self):
        answers = no_letters(2) + [(), (0,), (0, 0, 0), (0, 2), (2, 0), (0,) * 100, "01", (0, "1"), {0: 0, 1: 0}]
        draw = KINDS + FAR + [(), (3,), 2, 3, 10 ** 59]
        wrong = [NO_SCHEME, (number, beyond(2)), (number, draw), (ANSWERS, answers)]
        self.check_arguments(fetched, (PAIR, 1, 1, (0, 1)), wrong)
        # Answers that cannot be come ahead of a wrong coin.
        torn = small_times(TORN)
        self.check_error(fetched, (torn, 1, 0, (0,)), ANSWERS(None))
        self.check_error(fetched, (torn, 1, 0, ()), refused("wrong", 1, 0))
        last = draws(torn, 0) - 1
        self.check_error(fetched, (torn, 0, last, (1, 1)), ANSWERS(None))
        self.check_error(fetched, (torn, 0, last, (1, 2)), refused("wrong", 0, 1))


class TestViews(Errors):
    """[12.4]"""

    def check_scheme(self, scheme):
        for lot in every_lot(scheme.houses):
            shared = []
            for wish in range(scheme.books):
                every = own_draws(scheme, wish)
                counted = Counter()
                sights = {}
                for coin, tables in every:
                    sent = own_sent(scheme, wish, coin, tables)
                    view = tuple([sent[house] for house in lot])
                    counted[view] += 1
                    sights.setdefault(sight(scheme, wish, coin, lot), set()).add(view)
                self.assertEqual(views(scheme, wish, lot), tuple(sorted(counted.items())))
                self.check_sights(scheme, wish, lot, counted, sights)
                shared.append({view: Fraction(many, len(every)) for view, many in counted.items()})
            for one, other in itertools.combinations(range(scheme.books), 2):
                self.assertEqual(shared[one] == shared[other], shares(scheme, one, lot) == shares(scheme, other, lot))

    def check_sights(self, scheme, wish, lot, counted, sights):
        """Views of unlike sights are unlike; those of one sight come equally often."""
        self.assertEqual(sum([len(some) for some in sights.values()]), len(counted))
        for some in sights.values():
            self.assertEqual(len({counted[view] for view in some}), 1)
        if not scheme.is_mixed:
            self.assertEqual({view for some in sights.values() for view in some}, set(sights))

    def test_small(self):
        for scheme in (PAIR, LONE, MIX):
            self.check_scheme(scheme)
        for scheme in small_schemes(125, 60):
            if max([draws(scheme, wish) for wish in range(scheme.books)]) <= 2000:
                self.check_scheme(scheme)

    def test_tables_that_lead(self):
        """Each view comes of as many tables as lead the coin's parts to those of the view."""
        for scheme in (small_times(WIDE, 1), MIX, Scheme(3, 1, 1, 2, True, (((1, (((1, 2), (2, 1), (0, 0)),)),),))):
            whole = tuple(range(scheme.houses))
            self.assertEqual(len(scheme.wishes[-1]), 1)
            wish = scheme.books - 1
            rows = own_sums(scheme, wish, 0)
            for view, many in views(scheme, wish, whole):
                sent = [row for sums in view for row in sums]
                wanted = 1
                for book in range(scheme.books):
                    parts = [tuple([book_at(scheme.length, row, book) for row in some]) for some in (rows, sent)]
                    wanted *= leading_count(scheme.prime, scheme.length, *parts)
                self.assertEqual(many, wanted)

    def test_greatest(self):
        row = ((1, 0),)
        for times, others in ((2000, 0), (1999, 1)):
            coins = ((times, (row, ())),) + (((others, ((), row)),) if others else ())
            scheme = Scheme(2, 2, 2, 1, False, (coins, coins))
            self.assertEqual(sum([many for _, many in views(scheme, 0, (0, 1))]), 2000)
            self.check_error(views, (Scheme(2, 2, 2, 1, False, (coins + ((1, (row, row)),), coins)), 0, (0,)), too_many(2000))
        generator = random.Random(126)
        for prime, books, length in ((2, 4, 2), (43, 2, 1), (1999, 1, 1), (5, 1, 2)):
            asks = tuple([tuple([tuple([generator.randrange(prime) for _ in range(books * length)]) for _ in range(many)]) for many in (16,) * 5 + (20,)])
            scheme = Scheme(prime, 6, books, length, True, (((1, asks),),) * books)
            found = self.check_within(20, views, scheme, books - 1, tuple(range(6)))
            self.assertEqual(sum([many for _, many in found]), draws(scheme, 0))
            self.assertEqual(list(found), sorted(found))
        self.assertEqual(views(Scheme(9973, 6, 1, 1, False, (((2000, ((),) * 6),),)), 0, (5,)), ((((),), 2000),))
        self.check_error(views, (Scheme(2003, 1, 1, 1, True, (((1, (((1,),),)),),)), 0, (0,)), too_many(2000))
        self.check_error(views, (great_scheme(generator, 9973, 4, 25, True), 0, ()), too_many(2000))

    def test_errors(self):
        self.check_arguments(views, (PAIR, 1, (0, 1)), [NO_SCHEME, (number, beyond(2)), (LOTS, no_lot(2))])
        self.check_error(views, (TORN, 0, (3,)), LOTS(None))
        self.check_error(views, (TORN, 2, (3,)), number(2))
        self.check_error(views, (TORN, 0, (2,)), too_many(2000))


class TestCalls(Errors):
    def test_equal_calls(self):
        for scheme in (PAIR, MIX, WIDE):
            self.check_twice(draws, [(scheme, 1)])
            for function in (coin_at, asked_by):
                self.check_twice(function, [(scheme, 1, 1)])
            self.check_twice(views, [(scheme, 1, (0, 1))])
        library = Library(2, ((1,), (1,)))
        self.check_twice(answers_to, [(library, asked_by(PAIR, 0, 1))])
        self.check_twice(fetched, [(PAIR, 0, 1, (0, 1)), (MIX, 0, 2, (1, 0))])

    def test_not_true(self):
        """[12.5]"""
        scheme = Scheme(3, 1, 1, 1, True, (((1, (((1,),),)), (1, (((0,),),))),))
        self.assertEqual(sorted([many for _, many in views(scheme, 0, (0,))]), [1, 1, 2])
        coin = (1, (((1, 1),),))
        unlike = Scheme(2, 1, 2, 1, False, ((coin, coin), (coin,)))
        self.assertEqual([len(coins) for coins in unlike.wishes], [2, 1])
        self.assertEqual(shares(unlike, 0, (0,)), shares(unlike, 1, (0,)))

    def test_library_objects(self):
        for value in objects():
            if not isinstance(value, Library):
                self.check_error(answers_to, (value, ((),)), LIBRARY(None))


if __name__ == "__main__":
    unittest.main()
