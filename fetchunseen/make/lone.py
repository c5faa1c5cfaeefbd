"""The scheme for houses that do not put together what they were asked."""

from fetchunseen.base.checks import check_between, is_between
from fetchunseen.base.fields import are_letters, check_prime, powers_to
from fetchunseen.books.library import check_books
from fetchunseen.errors import InvalidAnswers, InvalidOperation, TooMany
from fetchunseen.lots.lots import MOST_HOUSES
from fetchunseen.scheme.schemes import MOST_ASKED, MOST_COINS, Scheme


def check_lone(houses, books):
    """Refuse what is no number of lone houses, or of books."""
    check_between(houses, 2, MOST_HOUSES)
    check_books(books)


def are_numbers(houses, many, value):
    """Whether the value is a tuple of so many numbers."""
    if not isinstance(value, tuple) or len(value) != many:
        return False
    return all([is_between(number, 0, houses - 1) for number in value])


def check_key(houses, books, key):
    """Refuse what is no key."""
    if not are_numbers(houses, books - 1, key):
        raise InvalidOperation("a number for each other book is wanted")


def check_numbers(houses, books, numbers):
    """Refuse what is no number for each book."""
    if not are_numbers(houses, books, numbers):
        raise InvalidOperation("a number for each book is wanted")


def check_few_keys(houses, books):
    """Refuse more keys than a wish can have coins."""
    if powers_to(houses, books - 1)[-1] > MOST_COINS:
        raise TooMany(MOST_COINS)


# What follows up to coins_of takes what is known to fit, without checks.


def all_keys(houses, books):
    """All keys, ascending."""
    found = [()]
    for _ in range(books - 1):
        found = [key + (number,) for key in found for number in range(houses)]
    return tuple(found)


def numbers_of(houses, wish, key, house):
    """The numbers of all books by which the house is asked."""
    return key[:wish] + ((house - sum(key)) % houses,) + key[wish:]


def asked_row(houses, numbers):
    """The sum of the letters with these numbers, one of each book."""
    row = []
    for number in numbers:
        row.extend([int(number == place + 1) for place in range(houses - 1)])
    return tuple(row)


def asked_of(houses, numbers):
    """The sums of a house that is asked for these numbers."""
    return (asked_row(houses, numbers),) if any(numbers) else ()


def coins_of(houses, books, wish):
    """The coins of the wish: all keys, each once."""
    coins = []
    for key in all_keys(houses, books):
        asks = [asked_of(houses, numbers_of(houses, wish, key, house)) for house in range(houses)]
        coins.append((1, tuple(asks)))
    return tuple(coins)


def keys(houses, books):
    """All keys, ascending."""
    check_lone(houses, books)
    check_few_keys(houses, books)
    return all_keys(houses, books)


def asked_numbers(houses, books, wish, key, house):
    """The numbers of all books by which the house is asked."""
    check_lone(houses, books)
    check_between(wish, 0, books - 1)
    check_key(houses, books, key)
    check_between(house, 0, houses - 1)
    return numbers_of(houses, wish, key, house)


def key_of(houses, books, wish, house, numbers):
    """The key by which the house is asked for these numbers, or None."""
    check_lone(houses, books)
    check_between(wish, 0, books - 1)
    check_between(house, 0, houses - 1)
    check_numbers(houses, books, numbers)
    if sum(numbers) % houses != house:
        return None
    return numbers[:wish] + numbers[wish + 1:]


def lone_scheme(prime, houses, books):
    """The scheme with all keys as the coins of each wish."""
    check_prime(prime)
    check_lone(houses, books)
    check_few_keys(houses, books)
    # Each key asks each house, but that of zeros does not ask house 0.
    if books * (powers_to(houses, books)[-1] - 1) > MOST_ASKED:
        raise TooMany(MOST_ASKED)
    wishes = tuple([coins_of(houses, books, wish) for wish in range(books)])
    return Scheme(prime, houses, books, houses - 1, False, wishes)


def lone_mean(houses, books):
    """How many letters come on the mean."""
    check_lone(houses, books)
    powers = powers_to(houses, books)
    return (powers[-1] - 1, powers[-2])


def lone_read(prime, houses, books, key, answers):
    """The letters of the wished book."""
    check_prime(prime)
    check_lone(houses, books)
    check_key(houses, books, key)
    if not are_letters(prime, answers, houses, houses):
        raise InvalidAnswers("a letter of each house is wanted")
    if not any(key) and answers[0] != 0:
        raise InvalidAnswers("house 0 is asked for nothing")
    first = sum(key) % houses
    return tuple([(answers[(first + number) % houses] - answers[first]) % prime for number in range(1, houses)])


def lone_wish(houses, books, one, other, here, there):
    """The wish that two houses see that are asked for these numbers, or None."""
    check_lone(houses, books)
    check_between(one, 0, houses - 1)
    check_between(other, 0, houses - 1)
    check_numbers(houses, books, here)
    check_numbers(houses, books, there)
    if one == other or books == 1:
        raise InvalidOperation("two houses and two books are wanted")
    unlike = [book for book in range(books) if here[book] != there[book]]
    if sum(here) % houses != one or sum(there) % houses != other or len(unlike) != 1:
        return None
    return unlike[0]
