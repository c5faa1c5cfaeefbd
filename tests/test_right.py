"""Stage 9: right schemes, and wrong ones."""

import itertools
import random
import unittest

from fetchunseen.base.ranks import rank_beside
from fetchunseen.base.rows import rank
from fetchunseen.scheme.right import is_right, is_right_answer, is_wrong_pair, read, right_answer, wrong_coins, wrong_pair
from fetchunseen.scheme.schemes import Scheme, all_scheme, open_scheme
from tests.shapes import LONE, MIX, MIXED, PAIR, TORN, all_coins, answers_of, book_at, great_scheme, is_wrong_by_trying
from tests.shapes import own_sums, rank_by_hand, six, some_scheme
from tests.support import ANSWERS, Errors, FAR, KINDS, SCHEME, all_rows, beyond, made_of, no_letters, number, objects
from tests.support import others_than, refused, shown, told

NO_SCHEME = (SCHEME, others_than(Scheme) + [six(PAIR), PAIR.wishes])
ONE = Scheme(3, 1, 2, 1, False, (((1, (((1, 1),),)),), ((1, (((0, 2),),)),)))
TWICE = Scheme(3, 1, 1, 1, False, (((1, (((1,), (1,)),)),),))
BENT = [
    None, True, False, 0, 1, 2, -1, 5, 10 ** 60, 10 ** 99, (), (0,), (1,), (1, 1), (0, 1), (1, True), ((1, 1),), ((0,),), [], [1, 1],
    "right", "wrong", "", {}, {0: 1}, (((1, 1),),), ((),), "x" * 3000, *objects(),
]


def of_one_coin(prime, books, length, sums, is_mixed=False):
    """The scheme in which each wish has one coin that asks these sums at one house."""
    return Scheme(prime, 1, books, length, is_mixed, (((1, (tuple(sums),)),),) * books)


def is_letters(prime, value, many):
    return type(value) is tuple and len(value) == many and all([type(one) is int and 0 <= one < prime for one in value])


def own_hidden(scheme, wish, coin, row):
    if not is_letters(scheme.prime, row, scheme.width) or not any(book_at(scheme.length, row, wish)):
        return False
    return not any(answers_of(scheme.prime, own_sums(scheme, wish, coin), row))


def own_readings(scheme, wish, coin, value):
    sums = own_sums(scheme, wish, coin)
    if type(value) is not tuple or len(value) != scheme.length:
        return False
    for place, reading in enumerate(value):
        if not is_letters(scheme.prime, reading, len(sums)):
            return False
        unit = tuple([int(at == wish * scheme.length + place) for at in range(scheme.width)])
        if made_of(scheme.prime, scheme.width, sums, reading) != unit:
            return False
    return True


def own_right_answer(scheme, value):
    """The judge by the words of the document."""
    if type(value) is not tuple or not value or type(value[0]) is not str:
        return False
    if value[0] == "wrong" and len(value) == 4:
        if type(value[1]) is not int or type(value[2]) is not int or (value[1], value[2]) not in all_coins(scheme):
            return False
        return own_hidden(scheme, *value[1:])
    if value[0] != "right" or len(value) != 2 or type(value[1]) is not tuple or len(value[1]) != scheme.books:
        return False
    for wish, coins in enumerate(scheme.wishes):
        if type(value[1][wish]) is not tuple or len(value[1][wish]) != len(coins):
            return False
    return all([own_readings(scheme, wish, coin, value[1][wish][coin]) for wish, coin in all_coins(scheme)])


def own_wrong_pair(scheme, wish, coin, value):
    if not is_wrong_by_trying(scheme, wish, coin):
        return value is None
    if type(value) is not tuple or len(value) != 2:
        return False
    if not all([is_letters(scheme.prime, row, scheme.width) for row in value]):
        return False
    sums = own_sums(scheme, wish, coin)
    alike = answers_of(scheme.prime, sums, value[0]) == answers_of(scheme.prime, sums, value[1])
    return alike and book_at(scheme.length, value[0], wish) != book_at(scheme.length, value[1], wish)


class Rights(Errors):
    def check_scheme(self, scheme, wanted=None):
        """`wanted` are the wrong coins; tried out if they are not told."""
        if wanted is None:
            wanted = tuple([(wish, coin) for wish, coin in all_coins(scheme) if is_wrong_by_trying(scheme, wish, coin)])
        before = shown(scheme)
        self.assertEqual(wrong_coins(scheme), wanted)
        self.assertIs(is_right(scheme), not wanted)
        answer = right_answer(scheme)
        self.assertEqual(answer[0], "wrong" if wanted else "right")
        self.assertIs(own_right_answer(scheme, answer), True)
        self.assertIs(is_right_answer(scheme, answer), True)
        for wish, coin in all_coins(scheme):
            self.check_coin(scheme, wish, coin, (wish, coin) in wanted)
        self.assertEqual(shown(scheme), before)

    def check_coin(self, scheme, wish, coin, is_wrong):
        sums = own_sums(scheme, wish, coin)
        columns = tuple(range(wish * scheme.length, (wish + 1) * scheme.length)) if sums else ()
        left = rank_beside(scheme.prime, sums, columns)
        self.assertEqual(rank(scheme.prime, sums) == scheme.length + left, not is_wrong)
        found = wrong_pair(scheme, wish, coin)
        self.assertIs(is_wrong_pair(scheme, wish, coin, found), True)
        if not is_wrong:
            self.assertIsNone(found)
            return
        self.assertNotEqual(book_at(scheme.length, found[0], wish), book_at(scheme.length, found[1], wish))
        self.assertEqual(answers_of(scheme.prime, sums, found[0]), answers_of(scheme.prime, sums, found[1]))
        self.assertIs(is_wrong_pair(scheme, wish, coin, None), False)


class TestCoins(Rights):
    """[9.1], [9.2], [9.3]: as all pairs of libraries tell."""

    def test_all_small(self):
        for prime, books, length, most in ((2, 1, 1, 3), (2, 2, 1, 3), (2, 1, 2, 3), (2, 3, 1, 2), (3, 2, 1, 2), (3, 1, 1, 3), (5, 2, 1, 1)):
            for many in range(most + 1):
                for sums in itertools.product(all_rows(prime, books * length), repeat=many):
                    self.check_scheme(of_one_coin(prime, books, length, sums, many % 2 == 1))

    def test_some(self):
        generator = random.Random(90)
        right = 0
        for _ in range(500):
            prime, books, length = generator.choice([(2, 2, 2), (2, 2, 3), (2, 3, 2), (2, 4, 1), (3, 2, 2), (3, 1, 3), (5, 2, 1), (7, 2, 1)])
            scheme = some_scheme(generator, prime, generator.randrange(1, 7), books, length, generator.randrange(2) == 1, 3)
            self.check_scheme(scheme)
            right += sum([not is_wrong_by_trying(scheme, *coin) for coin in all_coins(scheme)])
        self.assertGreater(right, 100)

    def test_given(self):
        for scheme in (PAIR, LONE, MIXED, MIX, TORN, ONE, TWICE):
            self.check_scheme(scheme)
        self.assertEqual(wrong_coins(TORN), ((0, 1), (1, 0)))
        self.assertEqual([is_right(scheme) for scheme in (PAIR, LONE, MIX, MIXED, ONE)], [True, True, True, False, False])

    def test_great(self):
        generator = random.Random(91)
        for books, length, houses in ((1, 100, 6), (2, 50, 6), (4, 25, 1), (3, 33, 6)):
            scheme = great_scheme(generator, 9973, books, length, books == 4, houses)
            self.assertEqual(rank_by_hand(9973, own_sums(scheme, 0, 0)), books * length)
            answer = self.check_within(20, right_answer, scheme)
            self.assertIs(self.check_within(20, is_right_answer, scheme, answer), True)
            self.assertIs(own_right_answer(scheme, answer), True)
            self.assertEqual(self.check_within(20, wrong_coins, scheme), ())
            self.assertIs(self.check_within(20, is_right, scheme), True)
            library = tuple([generator.randrange(9973) for _ in range(scheme.width)])
            answers = answers_of(9973, own_sums(scheme, books - 1, 0), library)
            self.assertEqual(self.check_within(20, read, scheme, books - 1, 0, answers), book_at(length, library, books - 1))
            self.check_torn(scheme)

    def check_torn(self, scheme):
        """The last coin lacks its last sum."""
        times, asks = scheme.wishes[-1][-1]
        coins = scheme.wishes[-1][:-1] + ((times, asks[:-1] + (asks[-1][:-1],)),)
        # With 99 sums for 99 letters of three books, one is made of others.
        wanted = () if scheme.width == 99 else ((scheme.books - 1, len(coins) - 1),)
        torn = Scheme(*six(scheme)[:5], scheme.wishes[:-1] + (coins,))
        self.check_scheme(torn, wanted)

    def test_known(self):
        for prime in (2, 9973):
            for function in (open_scheme, all_scheme):
                for shape in ((6, 4, 25, 5), (1, 1, 100, 0), (3, 2, 50, 2), (2, 1, 1, 0)):
                    self.check_scheme(function(prime, *shape), ())
            none = Scheme(prime, 6, 4, 25, True, (((1, ((),) * 6),) * 64,) * 4)
            self.check_scheme(none, tuple([(wish, coin) for wish in range(4) for coin in range(64)]))
        coin = (10 ** 9, (((1, 0), (1, 1)), (), ((0, 0),)))
        many = Scheme(2, 3, 2, 1, False, ((coin,) * 64, (coin,) * 64))
        self.check_scheme(many, ())
        self.check_scheme(of_one_coin(5, 2, 1, ((0, 0),) * 100), ((0, 0), (1, 0)))
        self.check_scheme(of_one_coin(5, 2, 1, ((1, 0),) * 100), ((1, 0),))

    def test_not_true(self):
        """[9.5]"""
        two = of_one_coin(2, 2, 1, ((1, 0), (1, 0)))
        self.assertEqual(wrong_coins(two), ((1, 0),))
        self.assertIs(is_right(all_scheme(2, 1, 2, 1, 0)), True)
        self.assertEqual(len({all_scheme(2, 1, 2, 1, 0).wishes[wish] for wish in range(2)}), 1)
        spare = Scheme(2, 1, 2, 1, False, (((1, (((1, 0), (0, 1)),)),), ((1, (((0, 1),),)),)))
        self.assertEqual(right_answer(spare)[1][0][0], ((1, 0),))


class TestRead(Rights):
    def check_read(self, scheme, wish, coin):
        sums, found = own_sums(scheme, wish, coin), {}
        for row in all_rows(scheme.prime, scheme.width):
            found.setdefault(answers_of(scheme.prime, sums, row), set()).add(book_at(scheme.length, row, wish))
        is_wrong = any([len(books) > 1 for books in found.values()])
        for answers in all_rows(scheme.prime, len(sums)):
            arguments = (scheme, wish, coin, answers)
            if answers not in found:
                self.check_error(read, arguments, ANSWERS(None))
            elif is_wrong:
                self.check_error(read, arguments, refused("wrong", wish, coin))
            else:
                self.assertEqual({read(*arguments)}, found[answers])

    def test_all_answers(self):
        for prime, books, length, most in ((2, 2, 1, 3), (2, 1, 2, 3), (3, 2, 1, 2), (2, 3, 1, 2)):
            for many in range(most + 1):
                for sums in list(itertools.product(all_rows(prime, books * length), repeat=many))[::3]:
                    scheme = of_one_coin(prime, books, length, sums, many == 2)
                    for wish in range(books):
                        self.check_read(scheme, wish, 0)

    def test_some(self):
        generator = random.Random(92)
        for _ in range(150):
            shape = generator.choice([(2, 2, 2, 2), (2, 6, 2, 2), (2, 3, 4, 1), (3, 3, 1, 3), (3, 2, 2, 1), (5, 1, 2, 1)])
            scheme = some_scheme(generator, *shape, generator.randrange(2) == 1, 2)
            for wish, coin in all_coins(scheme):
                if len(own_sums(scheme, wish, coin)) <= 6:
                    self.check_read(scheme, wish, coin)

    def test_errors(self):
        answers = no_letters(2) + [(), (0,), (0, 0, 0), (0, 2), (2, 0), (0,) * 100, "01", (0, "1"), {0: 0, 1: 0}]
        wrong = [NO_SCHEME, (number, beyond(2)), (number, beyond(2)), (ANSWERS, answers)]
        self.check_arguments(read, (PAIR, 1, 1, (0, 1)), wrong)
        # Answers that no library gives come ahead of a wrong coin.
        empty = Scheme(3, 2, 2, 1, True, (((1, (((1, 1), (2, 2)), ())), (2, ((), ()))), ((4, ((), ((0, 0),))),)))
        self.check_error(read, (empty, 0, 0, (1, 1)), ANSWERS(None))
        self.check_error(read, (empty, 0, 0, (1, 2)), refused("wrong", 0, 0))
        self.check_error(read, (empty, 0, 1, (0,)), ANSWERS(None))
        self.check_error(read, (empty, 0, 1, ()), refused("wrong", 0, 1))
        self.check_error(read, (empty, 1, 0, (1,)), ANSWERS(None))
        self.check_error(read, (empty, 1, 0, (0,)), refused("wrong", 1, 0))
        self.check_error(read, (empty, 1, 1, None), number(1))


class TestJudged(Rights):
    def test_all_readings(self):
        for sums in (((1,), (1,)), ((1,), (2,)), ((0,), (2,)), ((0,), (0,)), ()):
            scheme = of_one_coin(3, 1, 1, sums)
            for reading in all_rows(3, len(sums)):
                value = ("right", (((reading,),),))
                self.assertIs(is_right_answer(scheme, value), sum([a * b[0] for a, b in zip(reading, sums)]) % 3 == 1)
            for row in all_rows(3, 1):
                self.assertIs(is_right_answer(scheme, ("wrong", 0, 0, row)), own_right_answer(scheme, ("wrong", 0, 0, row)))

    def test_other_readings(self):
        taken = 0
        sums = ((1, 0), (0, 1), (1, 1))
        scheme = of_one_coin(2, 2, 1, sums)
        for first, second in itertools.product(all_rows(2, 3), repeat=2):
            value = ("right", (((first,),), ((second,),)))
            self.assertIs(is_right_answer(scheme, value), own_right_answer(scheme, value))
            taken += is_right_answer(scheme, value)
        self.assertEqual(taken, 4)

    def test_all_rows(self):
        generator = random.Random(93)
        for _ in range(80):
            shape = generator.choice([(2, 2, 2, 2), (3, 2, 2, 1), (2, 3, 3, 1)])
            scheme = some_scheme(generator, *shape, generator.randrange(2) == 1)
            for row in all_rows(scheme.prime, scheme.width):
                for wish, coin in all_coins(scheme) + [(0, 3), (scheme.books, 0)]:
                    value = ("wrong", wish, coin, row)
                    self.assertIs(is_right_answer(scheme, value), own_right_answer(scheme, value))

    def test_all_pairs(self):
        for scheme in (PAIR, LONE, ONE, MIX, of_one_coin(2, 1, 2, ((1, 1),)), of_one_coin(2, 3, 1, ((1, 1, 0), (0, 0, 1)))):
            for wish, coin in all_coins(scheme):
                for value in itertools.product(all_rows(scheme.prime, scheme.width), repeat=2):
                    self.assertIs(is_wrong_pair(scheme, wish, coin, value), own_wrong_pair(scheme, wish, coin, value))

    def test_bent_values(self):
        for scheme in (PAIR, ONE, TWICE, MIXED, TORN):
            self.check_bent(is_right_answer, (scheme,), own_right_answer, right_answer(scheme), BENT)
        for scheme, wish, coin in ((ONE, 0, 0), (TORN, 1, 0), (TORN, 0, 1)):
            found = wrong_pair(scheme, wish, coin)
            self.check_bent(is_wrong_pair, (scheme, wish, coin), own_wrong_pair, found, BENT)

    def test_values_of_every_kind(self):
        values = KINDS + FAR + [(), ("right",), ("wrong",), ("right", ()), ["right", right_answer(PAIR)[1]], ("wrong", 0, 0, (1, 0)),
                                right_answer(PAIR) + ((),), right_answer(PAIR)[1], ("wrong", right_answer(PAIR)[1]),
                                (right_answer(PAIR)[1], "right"), ("Right", right_answer(PAIR)[1]), ("right", right_answer(PAIR))]
        self.check_accepts(is_right_answer, (PAIR,), values)
        values = KINDS + FAR + [("wrong", 0, 0, (2, 1), 0), ("wrong", 0, 0), ("wrong", False, 0, (2, 1)), ("wrong", 0, False, (2, 1)),
                                ("wrong", 0, 0, (2, True)), ("wrong", 0, 0, [2, 1]), ["wrong", 0, 0, (2, 1)], ("wrong", 0, 1, (2, 1)),
                                ("wrong", 2, 0, (2, 1)), ("wrong", -2, 0, (2, 1)), ("wrong", 0, -1, (2, 1)), ("wrong", 0, 0, (0, 0)),
                                ("wrong", 0, 0, (-1, 1)), ("wrong", 0, 0, (2, 4)), ("wrong", 0, 0, (2, 1, 0)), ("right", 0, 0, (2, 1)),
                                ("wrong", 10 ** 60, 0, (2, 1)), ("wrong", 1, 0, (1, 0)), ("right", ((((1, 0),),),)), ("wrong", 0, 0, (1, 1))]
        self.check_accepts(is_right_answer, (ONE,), values)
        self.assertIs(is_right_answer(ONE, ("wrong", 0, 0, (1, 2))), True)
        pairs = [value for value in KINDS + FAR if value is not None] + [(), (None, None), ((0, 0), (1, 2))]
        self.check_accepts(is_wrong_pair, (ONE, 1, 0), pairs)
        values = KINDS + FAR + [(), ((0, 0),), ((0, 0), (1, 2), (0, 0)), [(0, 0), (1, 2)], ((0, 0), [1, 2]), ((False, 0), (1, 2)),
                                ((0, 0), (True, 2)), ((0, 0), (1, 5)), ((0, 0), (1, -1)), ((0,), (1,)), ((0, 0, 0), (1, 2, 0))]
        self.check_accepts(is_wrong_pair, (ONE, 0, 0), values)

    def test_true_is_not_one(self):
        good = right_answer(LONE)
        self.assertIs(is_right_answer(LONE, good), True)
        self.assertIn("1", shown(good))
        self.assertIs(is_right_answer(LONE, eval(repr(good).replace("1", "True"))), False)

    def test_errors(self):
        for function in (right_answer, is_right, wrong_coins):
            self.check_arguments(function, (PAIR,), [NO_SCHEME])
        self.check_arguments(is_right_answer, (PAIR, None), [NO_SCHEME, None])
        coin = [NO_SCHEME, (number, beyond(2)), (number, beyond(2))]
        self.check_arguments(wrong_pair, (PAIR, 1, 1), coin)
        self.check_arguments(is_wrong_pair, (PAIR, 1, 1, None), coin + [None])
        self.check_error(wrong_pair, (TORN, 1, 1), number(1))

    def test_equal_calls(self):
        for function in (right_answer, is_right, wrong_coins):
            self.check_twice(function, [(scheme,) for scheme in (PAIR, ONE, TORN, MIXED)])
        self.check_twice(is_right_answer, [(PAIR, right_answer(PAIR)), (ONE, right_answer(ONE))])
        self.check_twice(read, [(PAIR, 1, 1, (0, 1))])
        self.check_twice(wrong_pair, [(ONE, 0, 0), (ONE, 1, 0)])
        self.check_twice(is_wrong_pair, [(ONE, 0, 0, ((0, 0), (1, 2)))])


class TestReadings(Rights):
    """[9.2], [9.4]: the same numbers make the letters out of the answers."""

    def test_readings_read(self):
        generator = random.Random(94)
        for scheme in (PAIR, LONE, MIX, TWICE, open_scheme(5, 3, 2, 2, 1), all_scheme(3, 2, 3, 1, 0)):
            readings = right_answer(scheme)[1]
            for wish, coin in all_coins(scheme):
                sums = own_sums(scheme, wish, coin)
                for row in generator.sample(all_rows(scheme.prime, scheme.width), min(30, scheme.prime ** scheme.width)):
                    answers = answers_of(scheme.prime, sums, row)
                    book = tuple([told(scheme.prime, reading, answers) for reading in readings[wish][coin]])
                    self.assertEqual(book, book_at(scheme.length, row, wish))
                    self.assertEqual(read(scheme, wish, coin, answers), book)


if __name__ == "__main__":
    unittest.main()
