"""The least scheme for any lots: houses put together, and what is least for the lots."""

from fetchunseen.base.checks import is_between, is_same
from fetchunseen.base.fields import check_prime
from fetchunseen.base.fractions import product_of_two
from fetchunseen.books.library import check_books
from fetchunseen.bound.least import least_for_one, scale_of
from fetchunseen.errors import InvalidOperation
from fetchunseen.lots.lots import MOST_HOUSES, check_housed, free_in, pieces_by
from fetchunseen.lots.weights import MOST_PARTS, is_weights_answer, parts_of, weights_answer
from fetchunseen.make.sums import check_fitting, made_scheme
from fetchunseen.scheme.right import is_right_scheme
from fetchunseen.scheme.schemes import Scheme, check_scheme, check_scheme_lots, in_sequence, mean_of_wish, open_scheme
from fetchunseen.scheme.sight import seen_paper


def check_library_lots(prime, houses, lots, books):
    """Refuse what is no prime, no lots of houses, or no number of books."""
    check_prime(prime)
    check_housed(houses, lots)
    check_books(books)


def are_joined(houses, value):
    """Whether the value tells for 1 to 6 houses how many of the small ones each is."""
    if not isinstance(value, tuple) or not 1 <= len(value) <= MOST_HOUSES:
        return False
    return all([is_between(many, 0, MOST_PARTS) for many in value]) and sum(value) == houses


# What follows up to is_least_for takes what is known to fit, without checks.


def joined_asks(asks, parts):
    """For each house what its small houses are asked, one behind the other."""
    return tuple([in_sequence(piece) for piece in pieces_by(parts, asks)])


def joined_of(scheme, parts):
    """The scheme of houses that are so many small ones each."""
    wishes = [tuple([(times, joined_asks(asks, parts)) for times, asks in coins]) for coins in scheme.wishes]
    return Scheme(scheme.prime, len(parts), scheme.books, scheme.length, scheme.is_mixed, tuple(wishes))


def is_mean_least(scheme, s):
    """Whether the mean of each wish is the least one for the scale s."""
    least = product_of_two((scheme.length, 1), least_for_one(s, scheme.books))
    return all([mean_of_wish(scheme, wish) == least for wish in range(scheme.books)])


def is_least_for(scheme, lots):
    """Whether the scheme is right, unseen by the lots, and needs just the least letters."""
    if not is_mean_least(scheme, scale_of(scheme.houses, lots)):
        return False
    return is_right_scheme(scheme) and seen_paper(scheme, lots) == ("unseen",)


def joined_houses(scheme, parts):
    """The scheme in which neighbouring houses are put together."""
    check_scheme(scheme)
    if not are_joined(scheme.houses, parts):
        raise InvalidOperation("1 to 6 numbers that add up to the houses are wanted")
    return joined_of(scheme, parts)


def lots_scheme(prime, houses, lots, books):
    """A scheme with one coin for each wish that is least for the lots."""
    check_library_lots(prime, houses, lots, books)
    free = free_in(houses, lots)
    if free:
        return open_scheme(prime, houses, books, 1, free[0])
    parts, most = parts_of(houses, lots)
    many = sum(parts)
    check_fitting(prime, many, books)
    return joined_of(made_scheme(prime, many, most, books), parts)


def is_least(scheme, lots):
    """Whether the scheme is least for the lots."""
    check_scheme_lots(scheme, lots)
    return is_least_for(scheme, lots)


def least_answer(prime, houses, lots, books):
    """The least mean for one letter, weights that show it, and a least scheme."""
    scheme = lots_scheme(prime, houses, lots, books)
    return (least_for_one(scale_of(houses, lots), books), weights_answer(houses, lots), scheme)


def is_least_answer(prime, houses, lots, books, value):
    """Whether the value is what least_answer can return, with a scheme of any length."""
    check_library_lots(prime, houses, lots, books)
    if not isinstance(value, tuple) or len(value) != 3 or not isinstance(value[2], Scheme):
        return False
    if not is_same(value[0], least_for_one(scale_of(houses, lots), books)):
        return False
    if (value[2].prime, value[2].houses, value[2].books) != (prime, houses, books):
        return False
    return is_weights_answer(houses, lots, value[1]) and is_least_for(value[2], lots)
