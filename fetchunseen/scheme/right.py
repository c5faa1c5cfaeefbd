"""Which coins tell the wished book, by which readings, and which do not."""

from fetchunseen.base.checks import is_between
from fetchunseen.base.fields import are_letters
from fetchunseen.base.rows import columns_of, is_row_of, kernel_of, parts_for, put_through, reduced, told_at, unit_rows
from fetchunseen.books.library import part_at
from fetchunseen.errors import InvalidAnswers, Refused
from fetchunseen.scheme.schemes import check_coin, check_scheme, coin_sums


def all_coins(scheme):
    """The pairs (wish, coin) of all coins, ascending."""
    return [(wish, coin) for wish in range(scheme.books) for coin in range(len(scheme.wishes[wish]))]


def wished_units(scheme, wish):
    """The unit rows of the wished book's letters."""
    return part_at(scheme.length, unit_rows(scheme.width), wish)


def wished_part(scheme, wish, row):
    """The part of the row at the wished book."""
    return part_at(scheme.length, row, wish)


def readings_of(scheme, wish, coin):
    """For each letter of the wished book how the sums make its unit row; None if they do not."""
    sums = coin_sums(scheme, wish, coin)
    # One reduction for all letters: behind the sums' columns stand those of the unit rows.
    made, leads = reduced(scheme.prime, columns_of(sums + wished_units(scheme, wish)))
    if leads[-1] >= len(sums):
        return None
    readings = []
    for at in range(len(sums), len(sums) + scheme.length):
        reading = [0] * len(sums)
        for lead, letters in zip(leads, made):
            reading[lead] = letters[at]
        readings.append(tuple(reading))
    return tuple(readings)


def is_right_coin(scheme, wish, coin):
    """Whether the coin tells the wished book."""
    return readings_of(scheme, wish, coin) is not None


def hidden_row(scheme, wish, coin):
    """A row of a wrong coin: all sums tell 0 there, and the wished part is not all zeros."""
    rows = kernel_of(scheme.prime, scheme.width, coin_sums(scheme, wish, coin))
    return [row for row in rows if any(wished_part(scheme, wish, row))][0]


def paper_of(scheme):
    """The readings of all coins, or a row of the first wrong one."""
    found = [[] for _ in range(scheme.books)]
    for wish, coin in all_coins(scheme):
        readings = readings_of(scheme, wish, coin)
        if readings is None:
            return ("wrong", wish, coin, hidden_row(scheme, wish, coin))
        found[wish].append(readings)
    return ("right", tuple([tuple(coins) for coins in found]))


def is_right_scheme(scheme):
    """Whether all coins of all wishes are right."""
    return paper_of(scheme)[0] == "right"


def right_answer(scheme):
    """The readings of all coins of a right scheme, or a row that shows a wrong coin."""
    check_scheme(scheme)
    return paper_of(scheme)


def are_readings(scheme, wish, coin, value):
    """Whether the value has for each letter of the wished book a reading."""
    if not isinstance(value, tuple) or len(value) != scheme.length:
        return False
    sums = coin_sums(scheme, wish, coin)
    if not all([are_letters(scheme.prime, reading, len(sums), len(sums)) for reading in value]):
        return False
    return put_through(scheme.prime, value, sums) == wished_units(scheme, wish)


def are_right(scheme, value):
    """Whether the value has readings for all coins of all wishes."""
    if not isinstance(value, tuple) or len(value) != scheme.books:
        return False
    for wish, coins in enumerate(scheme.wishes):
        if not isinstance(value[wish], tuple) or len(value[wish]) != len(coins):
            return False
    return all([are_readings(scheme, wish, coin, value[wish][coin]) for wish, coin in all_coins(scheme)])


def is_coin_of(scheme, wish, coin):
    """Whether these values are a wish and one of its coins."""
    return is_between(wish, 0, scheme.books - 1) and is_between(coin, 0, len(scheme.wishes[wish]) - 1)


def is_hidden(scheme, wish, coin, value):
    """Whether the value is a row at which all sums tell 0, and the wished part is not all zeros."""
    if not is_row_of(scheme.prime, scheme.width, value):
        return False
    if not any(wished_part(scheme, wish, value)):
        return False
    return all([told_at(scheme.prime, row, value) == 0 for row in coin_sums(scheme, wish, coin)])


def is_paper_of(scheme, value):
    """Whether the value is what right_answer can return, for a scheme."""
    if not isinstance(value, tuple) or len(value) not in (2, 4):
        return False
    if len(value) == 2:
        return value[0] == "right" and are_right(scheme, value[1])
    if value[0] != "wrong" or not is_coin_of(scheme, value[1], value[2]):
        return False
    return is_hidden(scheme, value[1], value[2], value[3])


def is_right_answer(scheme, value):
    """Whether the value is what right_answer can return."""
    check_scheme(scheme)
    return is_paper_of(scheme, value)


def is_right(scheme):
    """Whether all coins of all wishes tell the wished book."""
    check_scheme(scheme)
    return is_right_scheme(scheme)


def wrong_coins(scheme):
    """The pairs (wish, coin) of all wrong coins, ascending."""
    check_scheme(scheme)
    return tuple([(wish, coin) for wish, coin in all_coins(scheme) if not is_right_coin(scheme, wish, coin)])


def letters_for(scheme, wish, coin, answers):
    """A row of letters at which the sums tell the answers; refused if there is none."""
    sums = coin_sums(scheme, wish, coin)
    if not are_letters(scheme.prime, answers, len(sums), len(sums)):
        raise InvalidAnswers("a letter for each sum is wanted")
    row = parts_for(scheme.prime, tuple(columns_of(sums)), answers)
    if row is None:
        raise InvalidAnswers("no letters of the books give these answers")
    return row


def read_at(scheme, wish, coin, answers):
    """The wished part of all letters that give the answers, for a coin that is one."""
    row = letters_for(scheme, wish, coin, answers)
    if not is_right_coin(scheme, wish, coin):
        raise Refused(("wrong", wish, coin))
    return wished_part(scheme, wish, row)


def read(scheme, wish, coin, answers):
    """The wished book's letters, in a mixed scheme those behind its table."""
    check_coin(scheme, wish, coin)
    return read_at(scheme, wish, coin, answers)


def wrong_pair(scheme, wish, coin):
    """Two rows that give equal answers and have unlike wished parts; None for a right coin."""
    check_coin(scheme, wish, coin)
    if is_right_coin(scheme, wish, coin):
        return None
    return ((0,) * scheme.width, hidden_row(scheme, wish, coin))


def is_wrong_pair(scheme, wish, coin, value):
    """Whether the value is what wrong_pair can return."""
    check_coin(scheme, wish, coin)
    if is_right_coin(scheme, wish, coin):
        return value is None
    if not isinstance(value, tuple) or len(value) != 2:
        return False
    if not all([is_row_of(scheme.prime, scheme.width, row) for row in value]):
        return False
    difference = [(own - letter) % scheme.prime for own, letter in zip(value[0], value[1])]
    return is_hidden(scheme, wish, coin, tuple(difference))
