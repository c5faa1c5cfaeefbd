"""Schemes: for each wish the coins, and which sums each of them asks."""

from fetchunseen.base.checks import check_between, is_ascending, is_between
from fetchunseen.base.fields import MOST_TIMES, check_prime, is_prime
from fetchunseen.base.fractions import mean_number
from fetchunseen.base.rows import MOST_WIDTH, is_row_of, unit_rows
from fetchunseen.books.library import MOST_HELD, check_books, check_length, check_order, joined_parts, most_length
from fetchunseen.books.library import moved, moved_row, parts_at
from fetchunseen.errors import InvalidLots, InvalidOperation, InvalidScheme, TooMany
from fetchunseen.lots.lots import MOST_HOUSES, are_lots, check_houses

MOST_COINS = 64
MOST_SUMS = 100
MOST_ASKED = 400


def in_sequence(asks):
    """All sums, house by house, each house's in their sequence."""
    sums = []
    for asked in asks:
        sums.extend(list(asked))
    return tuple(sums)


def many_sums(asks):
    """How many sums are asked."""
    return sum([len(asked) for asked in asks])


def is_coin(prime, houses, width, value):
    """Whether the value is a coin: its times, and for each house the sums."""
    if not isinstance(value, tuple) or len(value) != 2 or not is_between(value[0], 1, MOST_TIMES):
        return False
    asks = value[1]
    if not isinstance(asks, tuple) or len(asks) != houses:
        return False
    if not all([isinstance(asked, tuple) for asked in asks]) or many_sums(asks) > MOST_SUMS:
        return False
    return all([is_row_of(prime, width, row) for row in in_sequence(asks)])


def shape_fault(prime, houses, books, length, is_mixed):
    """The first fault ahead of the wishes, or None."""
    if not is_prime(prime):
        return ("prime",)
    if not is_between(houses, 1, MOST_HOUSES):
        return ("houses",)
    if not is_between(books, 1, MOST_HELD):
        return ("books",)
    if not is_between(length, 1, most_length(books)):
        return ("length",)
    if not isinstance(is_mixed, bool):
        return ("mixed",)
    return None


def wish_fault(prime, houses, width, wish, value):
    """The first fault of what is told for the wish, or None."""
    if not isinstance(value, tuple) or not 1 <= len(value) <= MOST_COINS:
        return ("wish", wish)
    for coin, told in enumerate(value):
        if not is_coin(prime, houses, width, told):
            return ("coin", wish, coin)
    return None


def scheme_fault(prime, houses, books, length, is_mixed, wishes):
    """The first fault by which these make no scheme, or None."""
    fault = shape_fault(prime, houses, books, length, is_mixed)
    if fault is not None:
        return fault
    if not isinstance(wishes, tuple) or len(wishes) != books:
        return ("wishes",)
    for wish, coins in enumerate(wishes):
        fault = wish_fault(prime, houses, books * length, wish, coins)
        if fault is not None:
            return fault
    if sum([many_sums(asks) for coins in wishes for _, asks in coins]) > MOST_ASKED:
        return ("many",)
    return None


class Scheme:
    """For each wish the coins: how often each is taken, and what it asks each house."""

    def __init__(self, prime, houses, books, length, is_mixed, wishes):
        if scheme_fault(prime, houses, books, length, is_mixed, wishes) is not None:
            raise InvalidScheme("what is told makes no scheme")
        self.prime = prime
        self.houses = houses
        self.books = books
        self.length = length
        self.is_mixed = is_mixed
        self.wishes = wishes
        self.width = books * length

    def __eq__(self, value):
        return isinstance(value, Scheme) and told_of(self) == told_of(value)

    def __str__(self):
        return f"{kind_of(self)} scheme of {self.books} books of {self.length} letters {places_of(self)}"


def told_of(scheme):
    """The six values that tell the scheme."""
    return (scheme.prime, scheme.houses, scheme.books, scheme.length, scheme.is_mixed, scheme.wishes)


def kind_of(scheme):
    """The word that tells whether tables are drawn."""
    return "mixed" if scheme.is_mixed else "plain"


def places_of(scheme):
    """The words that tell the houses and the prime."""
    return f"at {scheme.houses} houses, modulo {scheme.prime}"


def check_scheme(scheme):
    """Refuse what is no scheme."""
    if not isinstance(scheme, Scheme):
        raise InvalidScheme("a scheme is wanted")


def check_wish(scheme, wish):
    """Refuse what is no scheme, or no wish of it."""
    check_scheme(scheme)
    check_between(wish, 0, scheme.books - 1)


def check_coin(scheme, wish, coin):
    """Refuse what is no scheme, no wish of it, or no coin of the wish."""
    check_wish(scheme, wish)
    check_between(coin, 0, len(scheme.wishes[wish]) - 1)


def check_lot(scheme, lot):
    """Refuse what is no lot of the scheme's houses."""
    if not is_ascending(lot, scheme.houses):
        raise InvalidLots("a lot of the scheme's houses is wanted")


def check_scheme_lots(scheme, lots):
    """Refuse what is no scheme, or no lots of its houses."""
    check_scheme(scheme)
    if not are_lots(scheme.houses, lots):
        raise InvalidLots("lots of the scheme's houses are wanted")


# What follows up to changed takes what is known to fit, without checks.


def coin_sums(scheme, wish, coin):
    """All sums of the coin."""
    return in_sequence(scheme.wishes[wish][coin][1])


def sums_at(asks, lot):
    """The sums of the houses of the lot."""
    return in_sequence([asks[house] for house in lot])


def mean_of_wish(scheme, wish):
    """How many letters come for the wish on the mean."""
    return mean_number([(times, many_sums(asks)) for times, asks in scheme.wishes[wish]])


def changed(scheme, wishes):
    """The scheme with these wishes."""
    return Scheme(scheme.prime, scheme.houses, scheme.books, scheme.length, scheme.is_mixed, wishes)


def sums_of(scheme, wish, coin):
    """All sums of the coin, house by house, each house's in their sequence."""
    check_coin(scheme, wish, coin)
    return coin_sums(scheme, wish, coin)


def lot_sums(scheme, wish, coin, lot):
    """The sums of the coin for the houses of the lot, alike."""
    check_coin(scheme, wish, coin)
    check_lot(scheme, lot)
    return sums_at(scheme.wishes[wish][coin][1], lot)


def mean(scheme, wish):
    """How many letters come for the wish on the mean."""
    check_wish(scheme, wish)
    return mean_of_wish(scheme, wish)


def exchanged_houses(scheme, order):
    """The scheme in which house n has become house order[n]."""
    check_scheme(scheme)
    check_order(order, scheme.houses)
    wishes = [tuple([(times, moved(asks, order)) for times, asks in coins]) for coins in scheme.wishes]
    return changed(scheme, tuple(wishes))


def moved_asks(books, asks, order):
    """The same sums for exchanged books."""
    return tuple([tuple([moved_row(books, row, order) for row in asked]) for asked in asks])


def exchanged_books(scheme, order):
    """The scheme in which book k has become book order[k], also as the wish."""
    check_scheme(scheme)
    check_order(order, scheme.books)
    wishes = []
    for coins in scheme.wishes:
        wishes.append(tuple([(times, moved_asks(scheme.books, asks, order)) for times, asks in coins]))
    return changed(scheme, moved(wishes, order))


def greatest_sums(coins):
    """The greatest number of sums of a coin."""
    return max([many_sums(asks) for _, asks in coins])


def greatest_times(coins):
    """The greatest times of a coin."""
    return max([times for times, _ in coins])


def all_sums(coins):
    """How many sums all coins ask."""
    return sum([many_sums(asks) for _, asks in coins])


def check_together(one, other):
    """Refuse what does not come to one plain scheme within the bounds."""
    check_scheme(one)
    check_scheme(other)
    if one.is_mixed or other.is_mixed:
        raise InvalidOperation("a scheme is mixed")
    if (one.prime, one.houses, one.books) != (other.prime, other.houses, other.books):
        raise InvalidOperation("primes, houses or books are unlike")
    if one.width + other.width > MOST_WIDTH:
        raise TooMany(MOST_WIDTH)
    both = list(zip(one.wishes, other.wishes))
    if max([len(coins) * len(more) for coins, more in both]) > MOST_COINS:
        raise TooMany(MOST_COINS)
    if max([greatest_sums(coins) + greatest_sums(more) for coins, more in both]) > MOST_SUMS:
        raise TooMany(MOST_SUMS)
    if max([greatest_times(coins) * greatest_times(more) for coins, more in both]) > MOST_TIMES:
        raise TooMany(MOST_TIMES)
    if sum([len(more) * all_sums(coins) + len(coins) * all_sums(more) for coins, more in both]) > MOST_ASKED:
        raise TooMany(MOST_ASKED)


def widened(books, asks, ahead, behind):
    """The sums with so many zeros ahead of and behind each book's letters."""
    zeros = (0,) * (books * ahead)
    more = (0,) * (books * behind)
    return [[joined_parts(books, joined_parts(books, zeros, row), more) for row in asked] for asked in asks]


def asked_together(asks, others):
    """For each house the sums of the one, and behind them those of the other."""
    return tuple([tuple(asked + more) for asked, more in zip(asks, others)])


def coins_together(one, other, wish):
    """All pairs of coins of the wish, ascending, the one's ahead."""
    books = one.books
    first = [(times, widened(books, asks, 0, other.length)) for times, asks in one.wishes[wish]]
    second = [(times, widened(books, asks, one.length, 0)) for times, asks in other.wishes[wish]]
    pairs = [(coin, more) for coin in first for more in second]
    return tuple([(coin[0] * more[0], asked_together(coin[1], more[1])) for coin, more in pairs])


def together(one, other):
    """The plain scheme for books of both lengths, with all pairs of coins."""
    check_together(one, other)
    wishes = tuple([coins_together(one, other, wish) for wish in range(one.books)])
    return Scheme(one.prime, one.houses, one.books, one.length + other.length, False, wishes)


def asking_one(prime, houses, books, length, house, sums):
    """The plain scheme with one coin for each wish that asks this house its sums."""
    wishes = []
    for wish in range(books):
        asks = [sums[wish] if at == house else () for at in range(houses)]
        wishes.append(((1, tuple(asks)),))
    return Scheme(prime, houses, books, length, False, tuple(wishes))


def check_asking_one(prime, houses, books, length, house):
    """Refuse what is no shape of a scheme, or no house of it."""
    check_prime(prime)
    check_houses(houses)
    check_books(books)
    check_length(books, length)
    check_between(house, 0, houses - 1)


def open_scheme(prime, houses, books, length, house):
    """The plain scheme that asks this house alone, for the wished book's letters."""
    check_asking_one(prime, houses, books, length, house)
    units = unit_rows(books * length)
    return asking_one(prime, houses, books, length, house, parts_at(books, units))


def all_scheme(prime, houses, books, length, house):
    """The plain scheme that asks this house alone, for all letters."""
    check_asking_one(prime, houses, books, length, house)
    return asking_one(prime, houses, books, length, house, [unit_rows(books * length)] * books)
