"""Schemes of sums of one, two and more books, unseen by any so many of the houses."""

from itertools import combinations

from fetchunseen.base.checks import check_between
from fetchunseen.base.fields import check_prime, powers_to
from fetchunseen.base.rows import MOST_WIDTH
from fetchunseen.books.library import check_books
from fetchunseen.errors import Refused, TooMany
from fetchunseen.lots.lots import MOST_HOUSES
from fetchunseen.make.codes import power_rows_of
from fetchunseen.scheme.right import is_right_scheme
from fetchunseen.scheme.schemes import Scheme, in_sequence, mean_of_wish
from fetchunseen.scheme.sight import seen_by


def check_most(many, most):
    """Refuse what is no number of houses, or no number of those that put together what they know."""
    check_between(many, 1, MOST_HOUSES)
    check_between(most, 1, many)


def check_fitting(prime, many, books):
    """Refuse more letters than a library has, and a prime that is not above the length."""
    length = length_of(many, books)
    if books * length > MOST_WIDTH:
        raise TooMany(MOST_WIDTH)
    if prime <= length:
        raise Refused(("prime", length))


def check_sums(prime, many, most, books):
    """Refuse that for which no scheme is made."""
    check_prime(prime)
    check_most(many, most)
    check_books(books)
    check_fitting(prime, many, books)


# What follows up to made_scheme takes what is known to fit, without checks.


def length_of(many, books):
    """How long a book is."""
    return powers_to(many, books)[-1]


def counts_of(many, most, books):
    """How many sums a house is asked of one, two and more told books."""
    others = powers_to(many - most, books)
    alone = powers_to(most, books)
    return tuple([others[at] * alone[books - 1 - at] for at in range(books)])


def book_lots(books):
    """All lots of books but the empty one, smaller ones first."""
    return [lot for size in range(1, books + 1) for lot in combinations(range(books), size)]


def all_counted(many, most, books):
    """How many sums all houses are asked."""
    counts = counts_of(many, most, books)
    return many * sum([counts[len(lot) - 1] for lot in book_lots(books)])


def row_with(width, firsts, letters):
    """The row of zeros, but for the letters from each of the first places on."""
    row = [0] * width
    for first in firsts:
        row[first:first + len(letters)] = list(letters)
    return row


def code_of(prime, many, alone, beside):
    """The rows of a word's places, so many at each house that those alone tell all."""
    if alone == 0:
        return [()] * (many * beside)
    return power_rows_of(prime, many * (alone + beside), many * alone)


def cut(rows, many):
    """The rows in so many pieces, each as long."""
    size = len(rows) // many
    return [rows[house * size:(house + 1) * size] for house in range(many)]


def with_wished(rows, first):
    """The rows, each with one further letter of the wished book."""
    return [row[:first + at] + [1] + row[first + at + 1:] for at, row in enumerate(rows)]


def groups_of(prime, many, most, books, wish):
    """For each lot of books and each house the sums of just these books."""
    counts = counts_of(many, most, books)
    length = length_of(many, books)
    used = [book * length for book in range(books)]
    groups = {}
    for others in [()] + [lot for lot in book_lots(books) if wish not in lot]:
        alone = counts[len(others) - 1] if others else 0
        beside = counts[len(others)]
        firsts = [used[book] for book in others]
        rows = [row_with(books * length, firsts, letters) for letters in code_of(prime, many, alone, beside)]
        pieces = cut(rows, many)
        groups[others] = [piece[:alone] for piece in pieces]
        # Each of these is the sum of what is made of those alone, and of a letter of the wished book.
        mixed = in_sequence([piece[alone:] for piece in pieces])
        groups[tuple(sorted(others + (wish,)))] = cut(with_wished(mixed, used[wish]), many)
        for book in others:
            used[book] += many * alone
        used[wish] += many * beside
    return groups


def asks_of(prime, many, most, books, wish):
    """For each house its sums, lots of books in one sequence whatever the wish is."""
    groups = groups_of(prime, many, most, books, wish)
    asks = []
    for house in range(many):
        sums = in_sequence([groups[lot][house] for lot in book_lots(books)])
        asks.append(tuple([tuple(row) for row in sums]))
    return tuple(asks)


def made_scheme(prime, many, most, books):
    """The mixed scheme with one coin for each wish."""
    wishes = tuple([((1, asks_of(prime, many, most, books, wish)),) for wish in range(books)])
    return Scheme(prime, many, books, length_of(many, books), True, wishes)


def is_made_like(prime, many, books, value):
    """Whether the value is a mixed scheme of this form, with one coin for each wish."""
    if not isinstance(value, Scheme) or not value.is_mixed:
        return False
    if (value.prime, value.houses, value.books) != (prime, many, books):
        return False
    return value.length == length_of(many, books) and all([len(coins) == 1 for coins in value.wishes])


def is_unseen_by_all(scheme, most):
    """Whether no so many houses together see two wishes."""
    # These can be more lots than twelve.
    return all([seen_by(scheme, lot) is None for lot in combinations(range(scheme.houses), most)])


def sum_counts(many, most, books):
    """How many sums a house is asked of one, two and more told books."""
    check_most(many, most)
    check_books(books)
    return counts_of(many, most, books)


def sums_length(many, books):
    """How long a book is."""
    check_between(many, 1, MOST_HOUSES)
    check_books(books)
    return length_of(many, books)


def sums_mean(many, most, books):
    """How many sums there are in all, a fraction."""
    check_most(many, most)
    check_books(books)
    return (all_counted(many, most, books), 1)


def sums_scheme(prime, many, most, books):
    """A mixed scheme that any so many of the houses do not see through."""
    check_sums(prime, many, most, books)
    return made_scheme(prime, many, most, books)


def is_sums_scheme(prime, many, most, books, value):
    """Whether the value is what sums_scheme can return."""
    check_sums(prime, many, most, books)
    if not is_made_like(prime, many, books, value):
        return False
    wanted = (all_counted(many, most, books), 1)
    if not all([mean_of_wish(value, wish) == wanted for wish in range(books)]):
        return False
    return is_right_scheme(value) and is_unseen_by_all(value, most)
