"""Libraries and schemes for tests, and what is told of them by sums of the tests' own."""

import itertools
from fractions import Fraction

from fetchunseen.books.library import Library
from fetchunseen.scheme.schemes import Scheme
from tests.support import all_rows, told

PAIR = Scheme(2, 2, 2, 1, False, (
    ((1, (((0, 1),), ((1, 1),))), (1, (((1, 1),), ((0, 1),)))),
    ((1, (((1, 0),), ((1, 1),))), (1, (((1, 1),), ((1, 0),)))),
))
LONE = Scheme(2, 2, 2, 1, False, (
    ((1, ((), ((1, 0),))), (1, (((1, 1),), ((0, 1),)))),
    ((1, ((), ((0, 1),))), (1, (((1, 1),), ((1, 0),)))),
))
MIXED = Scheme(3, 2, 2, 2, True, (
    ((1, (((1, 0, 1, 0),), ((0, 1, 1, 0),))),),
    ((1, (((1, 0, 1, 0),), ((1, 0, 0, 1),))),),
))
MIX = Scheme(3, 2, 2, 1, True, (((1, (((1, 1),), ((1, 2),))),), ((1, (((1, 1),), ((2, 1),))),)))
# Wrong in the first wish's second coin and in the second wish; mixed, with unlike times.
TORN = Scheme(5, 3, 2, 2, True, (
    ((3, (((1, 0, 0, 0), (0, 1, 0, 0)), (), ((0, 0, 1, 1),))), (10 ** 9, (((1, 0, 0, 0),), ((2, 0, 0, 0),), ()))),
    ((7, ((), (), ())),),
))


def pair(fraction):
    return (fraction.numerator, fraction.denominator)


def all_libraries(prime, books, length):
    some = itertools.product(all_rows(prime, length), repeat=books)
    return [Library(prime, parts) for parts in some]


def six(scheme):
    return (scheme.prime, scheme.houses, scheme.books, scheme.length, scheme.is_mixed, scheme.wishes)


def bent(scheme, **changes):
    """The six values of the scheme, some of them changed."""
    names = ("prime", "houses", "books", "length", "is_mixed", "wishes")
    return tuple([changes.get(name, value) for name, value in zip(names, six(scheme))])


def own_sums(scheme, wish, coin, lot=None):
    """The sums of the coin for the lot, all of them if none is told."""
    asks = scheme.wishes[wish][coin][1]
    return tuple([row for house in (range(scheme.houses) if lot is None else lot) for row in asks[house]])


def own_mean(scheme, wish):
    coins = scheme.wishes[wish]
    many = sum([times * sum([len(sums) for sums in asks]) for times, asks in coins])
    return Fraction(many, sum([times for times, _ in coins]))


def all_coins(scheme):
    return [(wish, coin) for wish, coins in enumerate(scheme.wishes) for coin in range(len(coins))]


def every_lot(houses):
    """All lots of the houses, ascending."""
    return sorted([lot for most in range(houses + 1) for lot in itertools.combinations(range(houses), most)])


def answers_of(prime, sums, row):
    return tuple([told(prime, one, row) for one in sums])


def book_at(length, row, book):
    return row[book * length:(book + 1) * length]


def is_wrong_by_trying(scheme, wish, coin):
    """Whether two libraries give equal answers and have unlike wished books."""
    books = {}
    sums = own_sums(scheme, wish, coin)
    for row in all_rows(scheme.prime, scheme.width):
        found = books.setdefault(answers_of(scheme.prime, sums, row), set())
        found.add(book_at(scheme.length, row, wish))
    return any([len(found) > 1 for found in books.values()])


def rank_by_hand(prime, rows):
    """The rank, row by row against those ahead."""
    leads = {}
    for row in rows:
        left = list(row)
        for lead, ahead in sorted(leads.items()):
            left = [(one - left[lead] * other) % prime for one, other in zip(left, ahead)]
        places = [place for place, letter in enumerate(left) if letter]
        if places:
            by = pow(left[places[0]], -1, prime)
            leads[places[0]] = [letter * by % prime for letter in left]
    return len(leads)


def some_row(random, prime, width):
    """A row, at times of zeros or of one letter."""
    kind = random.randrange(8)
    if kind == 0:
        return (0,) * width
    if kind == 1:
        at = random.randrange(width)
        return tuple([int(place == at) for place in range(width)])
    return tuple([random.randrange(prime) for _ in range(width)])


def some_asks(random, prime, houses, width, most):
    """For each house some sums: none, at times one twice."""
    asks = []
    for _ in range(houses):
        sums = [some_row(random, prime, width) for _ in range(random.randrange(most + 1))]
        if sums and random.randrange(4) == 0:
            sums.append(random.choice(sums))
        asks.append(tuple(sums))
    return tuple(asks)


def some_times(random):
    return random.choice([1, 1, 2, 3, random.randrange(1, 20), 10 ** 9])


def some_scheme(random, prime, houses, books, length, is_mixed, most=2, coins=3):
    """A scheme of all kinds of coins; at times the wishes share coins."""
    wishes, width = [], books * length
    for _ in range(books):
        made = []
        for _ in range(random.randrange(1, coins + 1)):
            if wishes and random.randrange(2):
                times, asks = random.choice(random.choice(wishes))
                made.append((random.choice([times, some_times(random)]), asks))
            else:
                made.append((some_times(random), some_asks(random, prime, houses, width, most)))
        wishes.append(tuple(made))
    return Scheme(prime, houses, books, length, is_mixed, tuple(wishes))


def great_scheme(random, prime, books, length, is_mixed, houses=6, same=True):
    """400 sums at 6 houses, 100 for each of four coins; all sums of a coin are apart, if they can be."""
    table = tuple([tuple([random.randrange(prime) for _ in range(books * length)]) for _ in range(100)])
    cuts = [0, 16, 32, 48, 64, 80, 100] if houses == 6 else [0] + [100] * houses
    wishes = []
    for wish in range(books):
        made = []
        for coin in range(4 // books):
            rows = table if same else table[wish + coin:] + table[:wish + coin]
            made.append((10 ** 9 - coin, tuple([rows[first:last] for first, last in zip(cuts, cuts[1:])])))
        wishes.append(tuple(made))
    return Scheme(prime, houses, books, length, is_mixed, tuple(wishes))
