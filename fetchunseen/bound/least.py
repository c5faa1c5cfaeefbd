"""The least: how few letters can come, and what more it takes to show nothing of other books."""

from fetchunseen.base.checks import check_between
from fetchunseen.base.fractions import is_fraction, order_of_two, powers_added, product_of_two, sum_of_two
from fetchunseen.base.rows import MOST_WIDTH
from fetchunseen.errors import InvalidFraction, Refused, TooMany
from fetchunseen.lots.lots import check_housed
from fetchunseen.lots.weights import weights_answer

MOST_BOOKS = 20
NONE = (0, 1)
WHOLE = (1, 1)


def check_counted(books):
    """Refuse what is no number of books here."""
    check_between(books, 1, MOST_BOOKS)


def check_long(length):
    """Refuse what is no length of a book."""
    check_between(length, 1, MOST_WIDTH)


def check_not_all(s):
    """Refuse a scale of 1: then some lot has all houses."""
    if s == WHOLE:
        raise Refused(("all",))


# What follows up to gap_of takes what is known to fit, without checks; the scale s is None
# if a house is free.


def scale_of(houses, lots):
    """The sum of the greatest weights."""
    answer = weights_answer(houses, lots)
    return None if answer[0] == "free" else answer[1]


def turned(some):
    """1 divided by a fraction above 0."""
    return (some[1], some[0])


def least_for_one(s, books):
    """The least mean for books of one letter."""
    return WHOLE if s is None else powers_added(turned(s), books)


def shared_for_one(s):
    """1 / (s - 1), for s above 1."""
    return turned(sum_of_two(s, (-1, 1)))


def gap_of(s, books, length):
    """By how much the least mean stays below what shows nothing else, for s above 1."""
    if s is None:
        return NONE
    left = product_of_two((length, 1), shared_for_one(s))
    for _ in range(books - 1):
        left = product_of_two(left, turned(s))
    return left


def scale(houses, lots):
    """The sum of the greatest weights, None if a house is free."""
    check_housed(houses, lots)
    return scale_of(houses, lots)


def least_mean(houses, lots, books, length):
    """How many letters must come on the mean."""
    check_housed(houses, lots)
    check_counted(books)
    check_long(length)
    return product_of_two((length, 1), least_for_one(scale_of(houses, lots), books))


def least_rate(houses, lots, books):
    """The length, divided by the least mean."""
    check_housed(houses, lots)
    check_counted(books)
    return turned(least_for_one(scale_of(houses, lots), books))


def least_shown(houses, lots, length):
    """The least letters that come and that are shared, if nothing else is shown; None if that cannot be."""
    check_housed(houses, lots)
    check_long(length)
    s = scale_of(houses, lots)
    if s is None:
        return ((length, 1), NONE)
    if s == WHOLE:
        return None
    shared = product_of_two((length, 1), shared_for_one(s))
    return (product_of_two(shared, s), shared)


def gap(houses, lots, books, length):
    """By how much the least mean stays below the letters of least_shown."""
    check_housed(houses, lots)
    check_counted(books)
    check_long(length)
    s = scale_of(houses, lots)
    check_not_all(s)
    return gap_of(s, books, length)


def books_within(houses, lots, length, goal):
    """The least number of books for which the gap is at most the goal."""
    check_housed(houses, lots)
    check_long(length)
    if not is_fraction(goal) or goal[0] <= 0:
        raise InvalidFraction("a fraction above 0 is wanted")
    s = scale_of(houses, lots)
    check_not_all(s)
    for books in range(1, MOST_BOOKS + 1):
        if order_of_two(gap_of(s, books, length), goal) <= 0:
            return books
    raise TooMany(MOST_BOOKS)
