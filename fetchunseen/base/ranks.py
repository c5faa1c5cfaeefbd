"""Ranks of rows, the papers that show them, and the ranks of some of the rows."""

from fetchunseen.base.checks import is_ascending
from fetchunseen.base.fields import are_letters, check_prime
from fetchunseen.base.fractions import are_from_zero, order_of_two, product_of_two, total
from fetchunseen.base.rows import check_rows, columns_of, is_row_of, kernel_of, put_through
from fetchunseen.base.rows import rank_at, reduced, told_at, unit_rows, width_of
from fetchunseen.errors import InvalidFraction, InvalidLots, InvalidOperation
from fetchunseen.lots.lots import MOST_LOTS


def rows_at(rows, places):
    """The rows at the places."""
    return tuple([rows[place] for place in places])


def look_at(width, leads, letters):
    """The row with these letters at the leads, and 0 else."""
    row = [0] * width
    for lead, letter in zip(leads, letters):
        row[lead] = letter
    return tuple(row)


def looks_for(prime, rows):
    """For each of some rows that are apart a row at which it alone tells 1, the others 0."""
    width = width_of(rows)
    both = [row + unit for row, unit in zip(rows, unit_rows(len(rows)))]
    made, leads = reduced(prime, both)
    # What stands behind the rows tells how they make the reduced ones, and these
    # tell at a look just its letters at the leads.
    return tuple([look_at(width, leads, column) for column in columns_of(made)[width:]])


def rank_paper(prime, rows):
    """A paper for the rank of the rows."""
    check_prime(prime)
    check_rows(prime, rows)
    # A column of the reduced columns tells how the rows at the leads make this row.
    made, places = reduced(prime, columns_of(rows))
    parts = columns_of(made) if places else [() for _ in rows]
    return ("rank", places, tuple(parts), looks_for(prime, rows_at(rows, places)))


def are_parts_at(prime, rows, places, value):
    """Whether the value has for each row letters by which the rows at the places make it."""
    if not isinstance(value, tuple) or len(value) != len(rows):
        return False
    many = len(places)
    if not all([are_letters(prime, letters, many, many) for letters in value]):
        return False
    if many == 0:
        # No rows have no width, so nothing can be put through them.
        return rank_at(prime, rows) == 0
    return put_through(prime, value, rows_at(rows, places)) == rows


def are_looks_at(prime, rows, places, value):
    """Whether the value has for each place a row at which its row tells 1, the others 0."""
    if not isinstance(value, tuple) or len(value) != len(places):
        return False
    if not all([is_row_of(prime, width_of(rows), look) for look in value]):
        return False
    told = [tuple([told_at(prime, row, look) for row in rows_at(rows, places)]) for look in value]
    return tuple(told) == unit_rows(len(places))


def is_rank_paper(prime, rows, value):
    """Whether the value is a paper for the rank of the rows."""
    check_prime(prime)
    check_rows(prime, rows)
    if not isinstance(value, tuple) or len(value) != 4 or value[0] != "rank":
        return False
    if not is_ascending(value[1], len(rows)):
        return False
    return are_parts_at(prime, rows, value[1], value[2]) and are_looks_at(prime, rows, value[1], value[3])


def rank_of(prime, rows, places):
    """The rank of the rows at the places."""
    check_prime(prime)
    check_rows(prime, rows)
    if not is_ascending(places, len(rows)):
        raise InvalidOperation("ascending indices of the rows are wanted")
    return rank_at(prime, rows_at(rows, places))


def without_columns(row, columns):
    """The row with 0 at the columns."""
    left = list(row)
    for column in columns:
        left[column] = 0
    return tuple(left)


def rank_beside(prime, rows, columns):
    """The rank that is left with 0 at the columns."""
    check_prime(prime)
    check_rows(prime, rows)
    if not is_ascending(columns, width_of(rows)):
        raise InvalidOperation("ascending columns of the rows are wanted")
    return rank_at(prime, [without_columns(row, columns) for row in rows])


def check_both(prime, one, other):
    """Refuse what are not twice rows of one width."""
    check_prime(prime)
    check_rows(prime, one)
    check_rows(prime, other)
    if one and other and width_of(one) != width_of(other):
        raise InvalidOperation("the rows are of unlike widths")


def meet_of(prime, one, other):
    """The reduced basis of what is made of the one, and of the other, too."""
    check_both(prime, one, other)
    if not one or not other:
        return ()
    width = width_of(one)
    # A row is made of rows exactly if all of their kernel tells 0 at it.
    return kernel_of(prime, width, kernel_of(prime, width, one) + kernel_of(prime, width, other))


def both_ranks(prime, one, other):
    """The ranks of the one, of the other, of all rows together, and of the meet."""
    check_both(prime, one, other)
    left = rank_at(prime, one)
    right = rank_at(prime, other)
    joined = rank_at(prime, one + other)
    return (left, right, joined, left + right - joined)


def are_row_lots(rows, value):
    """Whether the value is at most 12 ascending tuples of indices of the rows."""
    if not isinstance(value, tuple) or len(value) > MOST_LOTS:
        return False
    return all([is_ascending(lot, len(rows)) for lot in value])


def is_covered(at, lots, cover):
    """Whether the fractions of the lots with this index come to at least 1."""
    borne = total([part for lot, part in zip(lots, cover) if at in lot])
    return order_of_two(borne, (1, 1)) >= 0


def cover_numbers(prime, rows, lots, cover):
    """The sum of the lots' ranks, each times its fraction, and the rank of all rows."""
    check_prime(prime)
    check_rows(prime, rows)
    if not are_row_lots(rows, lots):
        raise InvalidLots("at most 12 ascending tuples of indices of the rows are wanted")
    if not are_from_zero(cover, len(lots)):
        raise InvalidFraction("a fraction from 0 on for each lot is wanted")
    if not all([is_covered(at, lots, cover) for at in range(len(rows))]):
        raise InvalidOperation("a row is not covered")
    ranks = [rank_at(prime, rows_at(rows, lot)) for lot in lots]
    told = [product_of_two((many, 1), part) for many, part in zip(ranks, cover)]
    return (total(told), rank_at(prime, rows))
