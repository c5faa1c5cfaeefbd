"""Fractions: pairs in lowest terms, their sums, products, means and powers."""

from math import gcd

from fetchunseen.base.checks import check_between, is_between, is_integer
from fetchunseen.base.fields import MOST_TIMES
from fetchunseen.errors import InvalidFraction, InvalidNumber, InvalidOperation, Refused

MOST_ADDED = 100
MOST_POWERS = 100


def is_fraction(value):
    """Whether the value is a pair in lowest terms, the bottom above 0."""
    if not isinstance(value, tuple) or len(value) != 2:
        return False
    if not all([is_integer(number) for number in value]):
        return False
    return value[1] > 0 and gcd(value[0], value[1]) == 1


def is_from_zero(value):
    """Whether the value is a fraction from 0 on."""
    return is_fraction(value) and value[0] >= 0


def are_from_zero(value, many):
    """Whether the value is a tuple of so many fractions from 0 on."""
    if not isinstance(value, tuple) or len(value) != many:
        return False
    return all([is_from_zero(some) for some in value])


def are_fractions(value, most):
    """Whether the value is a tuple of at most so many fractions."""
    if not isinstance(value, tuple) or len(value) > most:
        return False
    return all([is_fraction(some) for some in value])


def check_fraction(value):
    """Refuse what is no fraction."""
    if not is_fraction(value):
        raise InvalidFraction("a fraction is wanted")


def check_two(one, other):
    """Refuse the first one that is no fraction."""
    check_fraction(one)
    check_fraction(other)


# What follows up to mean_number takes longer integers, too: results grow, and are worked on.


def lowest(top, bottom):
    """The fraction of a pair whose bottom is not 0, without checks."""
    common = gcd(top, bottom)
    if bottom < 0:
        common = -common
    return (top // common, bottom // common)


def sum_of_two(one, other):
    """The sum of two fractions of any length."""
    return lowest(one[0] * other[1] + other[0] * one[1], one[1] * other[1])


def product_of_two(one, other):
    """The product of two fractions of any length."""
    return lowest(one[0] * other[0], one[1] * other[1])


def order_of_two(one, other):
    """-1, 0 or 1, as the first one is less, equal or greater, of any length."""
    left = one[0] * other[1]
    right = other[0] * one[1]
    return int(left > right) - int(left < right)


def total(fractions):
    """The sum of all fractions of any length, (0, 1) for none."""
    made = (0, 1)
    for some in fractions:
        made = sum_of_two(made, some)
    return made


def mean_number(pairs):
    """The mean of integers, told as pairs (times, integer), without checks."""
    return lowest(sum([count * number for count, number in pairs]), sum([count for count, _ in pairs]))


def fraction(top, bottom):
    """The fraction that stands for the pair."""
    if not is_integer(top):
        raise InvalidNumber(top)
    if not is_integer(bottom) or bottom == 0:
        raise InvalidNumber(bottom)
    return lowest(top, bottom)


def plus(one, other):
    """The sum."""
    check_two(one, other)
    return sum_of_two(one, other)


def less(one, other):
    """The first one less the second one."""
    check_two(one, other)
    return sum_of_two(one, (-other[0], other[1]))


def times(one, other):
    """The product."""
    check_two(one, other)
    return product_of_two(one, other)


def over(one, other):
    """The first one divided by the second one."""
    check_two(one, other)
    if other[0] == 0:
        raise Refused(("zero",))
    return lowest(one[0] * other[1], one[1] * other[0])


def compared(one, other):
    """-1, 0 or 1, as the first one is less, equal or greater."""
    check_two(one, other)
    return order_of_two(one, other)


def added(fractions):
    """The sum of all, (0, 1) for none."""
    if not are_fractions(fractions, MOST_ADDED):
        raise InvalidFraction("at most 100 fractions are wanted")
    return total(fractions)


def is_counted(value):
    """Whether the value is a pair (times, fraction)."""
    if not isinstance(value, tuple) or len(value) != 2:
        return False
    return is_between(value[0], 1, MOST_TIMES) and is_fraction(value[1])


def are_counted(value):
    """Whether the value is 1 to 100 pairs (times, fraction)."""
    if not isinstance(value, tuple) or not 1 <= len(value) <= MOST_ADDED:
        return False
    return all([is_counted(pair) for pair in value])


def mean(pairs):
    """The sum of all fractions, each so many times, divided by the sum of all times."""
    if not are_counted(pairs):
        raise InvalidOperation("1 to 100 pairs of times and a fraction are wanted")
    told = total([product_of_two((count, 1), some) for count, some in pairs])
    return product_of_two(told, (1, sum([count for count, _ in pairs])))


def powers_added(one, many):
    """1 + r + r r + .., so many terms, for r = one."""
    check_fraction(one)
    check_between(many, 1, MOST_POWERS)
    made = (1, 1)
    for _ in range(many - 1):
        made = sum_of_two((1, 1), product_of_two(one, made))
    return made
