"""Invertible tables: how many there are, their numbers, and which rows they lead into which."""

from fetchunseen.base.checks import check_between, is_whole
from fetchunseen.base.fields import are_letters, check_prime, inverse_of, letters_at, number_at, powers_to
from fetchunseen.base.ranks import rows_at
from fetchunseen.base.rows import MOST_WIDTH, cleared, columns_of, is_rows, put_through, rank_at, reduced
from fetchunseen.base.rows import relations_at, told_at, unit_rows, width_of
from fetchunseen.errors import InvalidNumber, InvalidOperation, InvalidRows, Refused


def check_wide(prime, width):
    """Refuse what is no prime, or no width."""
    check_prime(prime)
    check_between(width, 1, MOST_WIDTH)


def is_wide_rows(prime, width, value):
    """Whether the value is rows of this width."""
    return is_rows(prime, value) and (not value or width_of(value) == width)


def is_table(prime, width, value):
    """Whether the value is a table of this width."""
    return is_wide_rows(prime, width, value) and len(value) == width


def check_alike(prime, width, one, other):
    """Refuse what are not twice equally many rows of this width."""
    check_wide(prime, width)
    if not is_wide_rows(prime, width, one) or not is_wide_rows(prime, width, other):
        raise InvalidRows("rows of the width are wanted")
    if len(one) != len(other):
        raise InvalidOperation("there are not equally many rows")


# What follows up to unlike_relation takes what is known to fit, without checks.


def row_counts(prime, width):
    """For each row of a table how many rows are apart from those ahead of it."""
    powers = powers_to(prime, width)
    return [powers[width] - made for made in powers[:width]]


def count_from(prime, width, first):
    """How many choices there are for all rows from the first one on."""
    many = 1
    for count in row_counts(prime, width)[first:]:
        many = many * count
    return many


def led_rest(prime, row, led):
    """The rest of the row: less each basis row times the row's letter at its lead."""
    rest = list(row)
    for lead, basis_row in led:
        rest = cleared(prime, rest, basis_row, rest[lead])
    return rest


def other_places(width, led):
    """The places that are no leads, ascending."""
    leads = [lead for lead, _ in led]
    return [place for place in range(width) if place not in leads]


def grown(prime, led, rest):
    """The basis with one row more, by its rest; as ascending pairs of a lead and a row."""
    lead = [place for place, letter in enumerate(rest) if letter != 0][0]
    factor = inverse_of(prime, rest[lead])
    scaled = [letter * factor % prime for letter in rest]
    kept = [(place, cleared(prime, row, scaled, row[lead])) for place, row in led]
    return sorted(kept + [(lead, scaled)])


def rest_of_number(prime, width, led, power, number):
    """The rest of the row that has this number behind the rows of the basis."""
    places = other_places(width, led)
    rest = [0] * width
    for place, letter in zip(places, letters_at(prime, len(places), number // power + 1)):
        rest[place] = letter
    return rest


def with_letters(prime, rest, led, letters):
    """The row of the rest with these letters at the leads."""
    row = rest
    for (_, basis_row), letter in zip(led, letters):
        row = cleared(prime, row, basis_row, -letter)
    return tuple(row)


def table_of_digits(prime, width, digits):
    """The table whose rows have these numbers."""
    powers = powers_to(prime, width)
    led = []
    table = []
    for at, digit in enumerate(digits):
        rest = rest_of_number(prime, width, led, powers[at], digit)
        table.append(with_letters(prime, rest, led, letters_at(prime, at, digit % powers[at])))
        led = grown(prime, led, rest)
    return tuple(table)


def table_numbered(prime, width, number):
    """The table with the number, an integer from 0 on; None if it is too great."""
    digits = []
    left = number
    for count in row_counts(prime, width)[::-1]:
        digits.append(left % count)
        left = left // count
    if left > 0:
        return None
    return table_of_digits(prime, width, digits[::-1])


def number_of_rest(prime, width, led, rest):
    """The number of the letters of the rest at the places that are no leads."""
    return number_at(prime, tuple([rest[place] for place in other_places(width, led)]))


def completed(prime, width, rows):
    """Rows that are apart, made longer to a whole table."""
    leads = reduced(prime, rows)[1]
    return rows + tuple([row for place, row in enumerate(unit_rows(width)) if place not in leads])


def leading_table(prime, width, one, other):
    """The table that leads the one into the other, if both have the same relations."""
    places = reduced(prime, columns_of(one))[1]
    first = completed(prime, width, rows_at(one, places))
    second = completed(prime, width, rows_at(other, places))
    # What leads the first table into the second one stands behind the first, reduced away.
    made = reduced(prime, [row + more for row, more in zip(first, second)])[0]
    return tuple([row[width:] for row in made])


def is_relation(prime, rows, letters):
    """Whether the rows, each times its letter, come to zeros."""
    return all([told_at(prime, letters, column) == 0 for column in columns_of(rows)])


def unlike_relation(prime, one, other):
    """A relation of just one of both, or None."""
    for rows, others in ((one, other), (other, one)):
        for letters in relations_at(prime, rows):
            if not is_relation(prime, others, letters):
                return letters
    return None


def table_count(prime, width):
    """How many invertible tables of the width there are."""
    check_wide(prime, width)
    return count_from(prime, width, 0)


def table_at(prime, width, number):
    """The invertible table with the number."""
    check_wide(prime, width)
    if not is_whole(number) or number < 0:
        raise InvalidNumber(number)
    table = table_numbered(prime, width, number)
    if table is None:
        raise InvalidNumber(number)
    return table


def number_of(prime, table):
    """The number of the invertible table."""
    check_prime(prime)
    if not isinstance(table, tuple) or not table or not is_table(prime, len(table), table):
        raise InvalidRows("a table is wanted")
    width = len(table)
    led = []
    number = 0
    for at, (row, count) in enumerate(zip(table, row_counts(prime, width))):
        rest = led_rest(prime, row, led)
        if not any(rest):
            raise Refused(("flat",))
        ahead = number_at(prime, tuple([row[lead] for lead, _ in led]))
        own = (number_of_rest(prime, width, led, rest) - 1) * powers_to(prime, at)[at] + ahead
        number = number * count + own
        led = grown(prime, led, rest)
    return number


def alike_answer(prime, width, one, other):
    """An invertible table that leads the one into the other, or a relation of just one."""
    check_alike(prime, width, one, other)
    letters = unlike_relation(prime, one, other)
    if letters is not None:
        return ("row", letters)
    return ("table", leading_table(prime, width, one, other))


def is_leading(prime, width, one, other, value):
    """Whether the value is an invertible table that leads the one into the other."""
    if not is_table(prime, width, value) or rank_at(prime, value) != width:
        return False
    return put_through(prime, one, value) == other


def is_unlike(prime, one, other, value):
    """Whether the value is a relation of just one of both."""
    if not are_letters(prime, value, len(one), len(one)):
        return False
    return is_relation(prime, one, value) != is_relation(prime, other, value)


def is_alike_answer(prime, width, one, other, value):
    """Whether the value is what alike_answer can return."""
    check_alike(prime, width, one, other)
    if not isinstance(value, tuple) or len(value) != 2:
        return False
    if value[0] == "table":
        return is_leading(prime, width, one, other, value[1])
    return value[0] == "row" and is_unlike(prime, one, other, value[1])


def leading_count(prime, width, one, other):
    """How many invertible tables lead the one into the other."""
    check_alike(prime, width, one, other)
    if relations_at(prime, one) != relations_at(prime, other):
        return 0
    return count_from(prime, width, rank_at(prime, one))
