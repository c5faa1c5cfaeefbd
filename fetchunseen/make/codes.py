"""Words by powers: the values of polynomials, of which any few tell all."""

from itertools import combinations
from math import comb

from fetchunseen.base.checks import check_between, is_ascending
from fetchunseen.base.fields import check_prime
from fetchunseen.base.ranks import rows_at
from fetchunseen.base.rows import MOST_WIDTH, check_pair, check_row, check_rows, columns_of, is_row, parts_for
from fetchunseen.base.rows import put_through, rank_at, relations_at
from fetchunseen.errors import InvalidOperation, Refused, TooMany

MOST_PLACES = 100
MOST_CHOICES = 2000


def check_many(many):
    """Refuse what is no number of places."""
    check_between(many, 1, MOST_PLACES)


def check_above(prime, many):
    """Refuse a prime that is not above the number of places."""
    if many >= prime:
        raise Refused(("prime", many))


# What follows up to are_apart_backwards takes what is known to fit, without checks.


def power_row(prime, width, at):
    """The power row with this number."""
    letters = [1]
    for _ in range(width - 1):
        letters.append(letters[-1] * (at + 1) % prime)
    return tuple(letters)


def power_rows_of(prime, many, width):
    """The first so many power rows."""
    return tuple([power_row(prime, width, at) for at in range(many)])


def word_of(prime, letters, many):
    """The word of the letters with so many places."""
    columns = columns_of(power_rows_of(prime, many, len(letters)))
    return put_through(prime, [letters], columns)[0]


def letters_for_values(prime, places, values):
    """The letters whose word has the values at the places, as many as there are."""
    rows = [power_row(prime, len(places), place) for place in places]
    return parts_for(prime, tuple(columns_of(rows)), values)


def are_apart_forwards(prime, rows, most):
    """Whether each so many of the rows have this rank."""
    for choice in combinations(range(len(rows)), most):
        if rank_at(prime, rows_at(rows, choice)) < most:
            return False
    return True


def are_apart_backwards(prime, rows, left):
    """Whether all but any so many of the rows are apart."""
    # They are so if no relation but zeros has zeros at just those that are left out.
    found = relations_at(prime, rows)
    if len(found) > left:
        return False
    for choice in combinations(range(len(rows)), left):
        if rank_at(prime, [rows_at(letters, choice) for letters in found]) < len(found):
            return False
    return True


def power_rows(prime, many, width):
    """The first so many power rows of the width."""
    check_prime(prime)
    check_many(many)
    check_between(width, 1, MOST_WIDTH)
    check_above(prime, many)
    return power_rows_of(prime, many, width)


def word_at(prime, letters, many):
    """The values of the polynomial of the letters at 1, 2 and so on."""
    check_prime(prime)
    check_row(prime, letters)
    check_many(many)
    check_above(prime, many)
    return word_of(prime, letters, many)


def letters_by(prime, width, places, values):
    """The letters whose word has the values at the places."""
    check_prime(prime)
    check_between(width, 1, MOST_WIDTH)
    if not is_ascending(places, min(MOST_PLACES, prime - 1)) or len(places) != width:
        raise InvalidOperation("as many ascending places as the width are wanted")
    check_row(prime, values)
    if len(values) != width:
        raise InvalidOperation("there are not as many values as places")
    return letters_for_values(prime, places, values)


def is_word(prime, width, value):
    """Whether the value is the word of some letters of this width."""
    check_prime(prime)
    check_between(width, 1, MOST_WIDTH)
    if not is_row(prime, value) or len(value) >= prime:
        return False
    if len(value) <= width:
        return True
    letters = letters_for_values(prime, tuple(range(width)), value[:width])
    return word_of(prime, letters, len(value)) == value


def are_apart(prime, rows, most):
    """Whether each so many of the rows are apart."""
    check_prime(prime)
    check_rows(prime, rows)
    check_between(most, 1, len(rows))
    if comb(len(rows), most) > MOST_CHOICES:
        raise TooMany(MOST_CHOICES)
    # Of two ways the one that looks at fewer rows at a time.
    left = len(rows) - most
    if most <= left:
        return are_apart_forwards(prime, rows, most)
    return are_apart_backwards(prime, rows, left)


def unlike_places(prime, one, other):
    """The places at which the rows are unlike."""
    check_pair(prime, one, other)
    return tuple([place for place in range(len(one)) if one[place] != other[place]])
