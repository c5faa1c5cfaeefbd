"""Runs of schemes: draws, what is sent, what is answered, what is fetched, and what lots view."""

from fetchunseen.base.checks import is_whole
from fetchunseen.base.rows import inverse_table, is_rows, put_through, told_at, width_of
from fetchunseen.books.library import check_library, in_one, part_at
from fetchunseen.errors import InvalidNumber, InvalidOperation, InvalidRows, TooMany
from fetchunseen.lots.lots import MOST_HOUSES
from fetchunseen.scheme.right import read_at
from fetchunseen.scheme.schemes import MOST_SUMS, check_lot, check_wish, in_sequence, many_sums
from fetchunseen.scheme.tables import count_from, table_numbered

MOST_VIEWS = 2000


def count_of_tables(scheme):
    """How many tables can be drawn for one book."""
    return count_from(scheme.prime, scheme.length, 0)


def count_of_mixes(scheme):
    """How many draws there are of tables for all books, 1 in a plain scheme."""
    if not scheme.is_mixed:
        return 1
    one = count_of_tables(scheme)
    many = 1
    for _ in range(scheme.books):
        many = many * one
    return many


def count_of_draws(scheme, wish):
    """How many draws there are for the wish."""
    return sum([times for times, _ in scheme.wishes[wish]]) * count_of_mixes(scheme)


def coin_of(scheme, wish, quotient):
    """The coin to which the quotient of a draw belongs."""
    coin = 0
    left = quotient
    while left >= scheme.wishes[wish][coin][0]:
        left = left - scheme.wishes[wish][coin][0]
        coin += 1
    return coin


def tables_of(scheme, rest):
    """The tables of all books that the rest of a draw tells."""
    if not scheme.is_mixed:
        return ()
    one = count_of_tables(scheme)
    left = rest
    tables = []
    for _ in range(scheme.books):
        tables.append(table_numbered(scheme.prime, scheme.length, left % one))
        left = left // one
    return tuple(tables[::-1])


def drawn(scheme, wish, draw):
    """The pair of the coin and of the tables of a draw that is one."""
    quotient, rest = divmod(draw, count_of_mixes(scheme))
    return (coin_of(scheme, wish, quotient), tables_of(scheme, rest))


def mixed_sums(scheme, sums, tables):
    """The sums, each book's part put through its table."""
    by_book = []
    for book, table in enumerate(tables):
        by_book.append(put_through(scheme.prime, [part_at(scheme.length, row, book) for row in sums], table))
    return tuple([in_one(parts) for parts in zip(*by_book)])


def sent_of(scheme, asks, tables):
    """For each of the houses what it is sent."""
    if not scheme.is_mixed:
        return asks
    return tuple([mixed_sums(scheme, sums, tables) for sums in asks])


def check_draw(scheme, wish, draw):
    """Refuse what is no scheme, no wish of it, or no draw for the wish."""
    check_wish(scheme, wish)
    if not is_whole(draw) or not 0 <= draw < count_of_draws(scheme, wish):
        raise InvalidNumber(draw)


def draws(scheme, wish):
    """How many draws there are for the wish."""
    check_wish(scheme, wish)
    return count_of_draws(scheme, wish)


def coin_at(scheme, wish, draw):
    """The pair of the coin and of the tables of all books; none for a plain scheme."""
    check_draw(scheme, wish, draw)
    return drawn(scheme, wish, draw)


def asked_by(scheme, wish, draw):
    """For each house the tuple of the sums that it is sent."""
    check_draw(scheme, wish, draw)
    coin, tables = drawn(scheme, wish, draw)
    return sent_of(scheme, scheme.wishes[wish][coin][1], tables)


def are_asks(prime, value):
    """Whether the value is for 1 to 6 houses rows of one width, at most 100 in all."""
    if not isinstance(value, tuple) or not 1 <= len(value) <= MOST_HOUSES:
        return False
    if not all([isinstance(rows, tuple) for rows in value]):
        return False
    return many_sums(value) <= MOST_SUMS and is_rows(prime, in_sequence(value))


def answers_to(library, asks):
    """What all sums tell at the library's letters, house by house."""
    check_library(library)
    if not are_asks(library.prime, asks):
        raise InvalidRows("for each house a tuple of rows of one width is wanted")
    sums = in_sequence(asks)
    if sums and width_of(sums) != len(library.row):
        raise InvalidOperation("the rows are of another width than the library's")
    return tuple([told_at(library.prime, row, library.row) for row in sums])


def fetched(scheme, wish, draw, answers):
    """The wished book, from the answers to what is sent."""
    check_draw(scheme, wish, draw)
    coin, tables = drawn(scheme, wish, draw)
    # The tables are invertible, so all letters behind them are those of some library.
    behind = read_at(scheme, wish, coin, answers)
    if not scheme.is_mixed:
        return behind
    back = inverse_table(scheme.prime, tables[wish])
    return tuple([told_at(scheme.prime, row, behind) for row in back])


def all_mixes(scheme):
    """The tuples of tables that can be drawn for all books; one empty tuple for a plain scheme."""
    mixes = [()]
    if not scheme.is_mixed:
        return mixes
    tables = [table_numbered(scheme.prime, scheme.length, number) for number in range(count_of_tables(scheme))]
    for _ in range(scheme.books):
        mixes = [ahead + (table,) for ahead in mixes for table in tables]
    return mixes


def views(scheme, wish, lot):
    """The pairs of each view of the lot and of the number of draws that give it, ascending."""
    check_wish(scheme, wish)
    check_lot(scheme, lot)
    if count_of_draws(scheme, wish) > MOST_VIEWS:
        raise TooMany(MOST_VIEWS)
    mixes = all_mixes(scheme)
    counted = {}
    for times, asks in scheme.wishes[wish]:
        asked = tuple([asks[house] for house in lot])
        for tables in mixes:
            view = sent_of(scheme, asked, tables)
            counted[view] = counted.get(view, 0) + times
    return tuple([(view, counted[view]) for view in sorted(counted)])
