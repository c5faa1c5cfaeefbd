"""Schemes by which the reader learns nothing of other books, by letters that the houses share."""

from fetchunseen.base.checks import check_between, is_between
from fetchunseen.base.fields import are_letters, check_prime, power_of
from fetchunseen.base.rows import inverse_table, is_row_of, put_through, rank_at, reduced, relations_at
from fetchunseen.base.rows import told_at, unit_rows
from fetchunseen.books.library import MOST_HELD, check_library, in_one, part_at, parts_at
from fetchunseen.errors import InvalidLots, InvalidOperation, InvalidShaded, Refused
from fetchunseen.lots.lots import are_lots, check_housed, greatest_lots, pieces_by
from fetchunseen.lots.weights import parts_of
from fetchunseen.scheme.schemes import in_sequence, many_sums, shape_fault

MOST_DRAWN = 40
MOST_SHARED = 8
MOST_SHADED = 24


def is_ask(prime, width, drawn, shared, value):
    """Whether the value is an ask: a sum, a sum for each drawn letter, a letter for each shared one."""
    if not isinstance(value, tuple) or len(value) != 3:
        return False
    row, rows, weights = value
    if not isinstance(rows, tuple) or len(rows) != drawn:
        return False
    if not all([is_row_of(prime, width, some) for some in (row,) + rows]):
        return False
    return are_letters(prime, weights, shared, shared)


def are_asks_of(prime, houses, width, drawn, shared, value):
    """Whether the value has for each house a tuple of asks, at most 24 in all."""
    if not isinstance(value, tuple) or len(value) != houses:
        return False
    if not all([isinstance(asked, tuple) for asked in value]) or many_sums(value) > MOST_SHADED:
        return False
    return all([is_ask(prime, width, drawn, shared, ask) for ask in in_sequence(value)])


def are_readings_of(prime, length, many, value):
    """Whether the value has for each letter of a book so many letters."""
    if not isinstance(value, tuple) or len(value) != length:
        return False
    return all([are_letters(prime, reading, many, many) for reading in value])


def shaded_fault(prime, houses, books, length, drawn, shared, wishes):
    """The first fault by which these make no shaded scheme, or None."""
    fault = shape_fault(prime, houses, books, length, False)
    if fault is not None:
        return fault
    if not is_between(drawn, 0, MOST_DRAWN):
        return ("drawn",)
    if not is_between(shared, 0, MOST_SHARED):
        return ("shared",)
    if not isinstance(wishes, tuple) or len(wishes) != books:
        return ("wishes",)
    for wish, told in enumerate(wishes):
        if not isinstance(told, tuple) or len(told) != 2:
            return ("wish", wish)
        if not are_asks_of(prime, houses, books * length, drawn, shared, told[0]):
            return ("wish", wish)
        if not are_readings_of(prime, length, many_sums(told[0]), told[1]):
            return ("wish", wish)
    return None


class Shaded:
    """For each wish what the houses are asked, and how the answers are read."""

    def __init__(self, prime, houses, books, length, drawn, shared, wishes):
        if shaded_fault(prime, houses, books, length, drawn, shared, wishes) is not None:
            raise InvalidShaded("what is told makes no shaded scheme")
        self.prime = prime
        self.houses = houses
        self.books = books
        self.length = length
        self.drawn = drawn
        self.shared = shared
        self.wishes = wishes
        self.sums = tuple([many_sums(asks) for asks, _ in wishes])

    def __eq__(self, value):
        return isinstance(value, Shaded) and seven_of(self) == seven_of(value)


def seven_of(scheme):
    """The seven values that tell the scheme."""
    shape = (scheme.prime, scheme.houses, scheme.books, scheme.length)
    return shape + (scheme.drawn, scheme.shared, scheme.wishes)


def check_shaded(scheme):
    """Refuse what is no shaded scheme."""
    if not isinstance(scheme, Shaded):
        raise InvalidShaded("a shaded scheme is wanted")


def check_drawn(scheme, wish, drawn):
    """Refuse what is no shaded scheme, no wish of it, or no letters that can be drawn."""
    check_shaded(scheme)
    check_between(wish, 0, scheme.books - 1)
    if not are_letters(scheme.prime, drawn, scheme.drawn, scheme.drawn):
        raise InvalidOperation("a letter for each drawn one is wanted")


# What follows up to is_other_shown takes what is known to fit, without checks.


def sent_sum(scheme, ask, drawn):
    """The sum that the house is sent for the ask."""
    # The sum itself comes once, the others as often as the drawn letters say.
    return put_through(scheme.prime, [(1,) + drawn], (ask[0],) + ask[1])[0]


def sent_of_wish(scheme, wish, drawn):
    """For each house the sums that it is sent."""
    asks = scheme.wishes[wish][0]
    return tuple([tuple([sent_sum(scheme, ask, drawn) for ask in asked]) for asked in asks])


def answers_of_house(scheme, asked, sent, shared, row):
    """What a house answers to what it is sent, with its weights."""
    return tuple([told_at(scheme.prime, some + ask[2], row + shared) for ask, some in zip(asked, sent)])


def asks_in_one(scheme, wish):
    """All asks of the wish, each as one row: the sum, those of the drawn letters, the weights."""
    return [row + in_one(rows) + weights for row, rows, weights in in_sequence(scheme.wishes[wish][0])]


def is_right_wish(scheme, wish):
    """Whether the readings make the wished book's letters, whatever is drawn and shared."""
    asks = asks_in_one(scheme, wish)
    readings = scheme.wishes[wish][1]
    if not asks:
        # What has no asks makes zeros alone, and a book has a letter.
        return False
    width = scheme.books * scheme.length
    zeros = (0,) * (len(asks[0]) - width)
    wanted = [unit + zeros for unit in part_at(scheme.length, unit_rows(width), wish)]
    return put_through(scheme.prime, readings, asks) == tuple(wanted)


def weights_seen(scheme, wish, lot):
    """The weights of all asks, for each house of the lot."""
    asks = scheme.wishes[wish][0]
    return [[weights for _, _, weights in asks[house]] for house in lot]


def long_rows(scheme, wish, lot):
    """The sums of the lot's asks as one row, and likewise those of each drawn letter."""
    asks = in_sequence([scheme.wishes[wish][0][house] for house in lot])
    first = in_one([row for row, _, _ in asks])
    return first, tuple([in_one([rows[at] for _, rows, _ in asks]) for at in range(scheme.drawn)])


def letters_at_leads(rows, leads):
    """The letters of the rows at the leads."""
    return tuple([tuple([row[lead] for lead in leads]) for row in rows])


def are_made(prime, basis, leads, rows):
    """Whether the rows are made of a reduced basis."""
    if not leads:
        return not any([any(row) for row in rows])
    # A reduced basis makes a row by none but its letters at the leads.
    return put_through(prime, letters_at_leads(rows, leads), basis) == rows


def is_span_of(prime, basis, leads, rows):
    """Whether the rows have the span of a reduced basis."""
    if rank_at(prime, letters_at_leads(rows, leads)) != len(leads):
        return False
    return are_made(prime, basis, leads, rows)


def is_blind(scheme, lot):
    """Whether the lot sees the same alike often for all wishes."""
    prime = scheme.prime
    first, rows = long_rows(scheme, 0, lot)
    basis, leads = reduced(prime, rows)
    for wish in range(1, scheme.books):
        if weights_seen(scheme, wish, lot) != weights_seen(scheme, 0, lot):
            return False
        other, others = long_rows(scheme, wish, lot)
        less = tuple([(letter - own) % prime for letter, own in zip(other, first)])
        if not are_made(prime, basis, leads, (less,)):
            return False
        if others != rows and not is_span_of(prime, basis, leads, others):
            return False
    return True


def is_other_shown(scheme, wish):
    """Whether for the wish something of another book is shown."""
    asks = in_sequence(scheme.wishes[wish][0])
    # What these letters make of the answers is free of all shared letters.
    free = relations_at(scheme.prime, [weights for _, _, weights in asks])
    made = put_through(scheme.prime, free, [in_one((row,) + rows) for row, rows, _ in asks])
    for row in made:
        for sums in parts_at(1 + scheme.drawn, row):
            if any(sums[:wish * scheme.length] + sums[(wish + 1) * scheme.length:]):
                return True
    return False


def powers_at(prime, point, many):
    """The powers of the point from 0 on, so many."""
    return tuple([power_of(prime, point, times) for times in range(many)])


def scaled_unit(width, place, letter):
    """The row with the letter at the place, and 0 elsewhere."""
    return (0,) * place + (letter,) + (0,) * (width - place - 1)


def ask_at(powers, most, books, wish):
    """The ask of a part: values of polynomials at its point."""
    length = len(powers) - most
    row = in_one([powers[most:] if book == wish else (0,) * length for book in range(books)])
    rows = []
    for place in range(books * length):
        rows.extend([scaled_unit(books * length, place, power) for power in powers[:most]])
    return (row, tuple(rows), powers[:most])


def made_shaded(prime, parts, most, books):
    """The scheme with one ask for each part, from which just the wished book can be read."""
    many = sum(parts)
    values = tuple([powers_at(prime, point, many) for point in range(many)])
    # The answers are values of a polynomial whose last coefficients are the book.
    readings = inverse_table(prime, values)[most:]
    wishes = []
    for wish in range(books):
        asks = tuple([ask_at(powers, most, books, wish) for powers in values])
        wishes.append((tuple(pieces_by(parts, asks)), readings))
    length = many - most
    return Shaded(prime, len(parts), books, length, books * length * most, most, tuple(wishes))


def sent_at(scheme, wish, drawn):
    """For each house the tuple of the sums that it is sent."""
    check_drawn(scheme, wish, drawn)
    return sent_of_wish(scheme, wish, drawn)


def run_at(scheme, wish, drawn, shared, library):
    """All answers, for each house a tuple, and what the readings make of them."""
    check_drawn(scheme, wish, drawn)
    if not are_letters(scheme.prime, shared, scheme.shared, scheme.shared):
        raise InvalidOperation("a letter for each shared one is wanted")
    check_library(library)
    if (library.prime, library.many, library.length) != (scheme.prime, scheme.books, scheme.length):
        raise InvalidOperation("the library is of another shape")
    asks, readings = scheme.wishes[wish]
    answers = []
    for asked, sent in zip(asks, sent_of_wish(scheme, wish, drawn)):
        answers.append(answers_of_house(scheme, asked, sent, shared, library.row))
    told = in_sequence(answers)
    return (tuple(answers), tuple([told_at(scheme.prime, reading, told) for reading in readings]))


def is_right_shaded(scheme):
    """Whether the readings always make the wished book."""
    check_shaded(scheme)
    return all([is_right_wish(scheme, wish) for wish in range(scheme.books)])


def is_unseen_shaded(scheme, lots):
    """Whether no lot sees anything of the wish."""
    check_shaded(scheme)
    if not are_lots(scheme.houses, lots):
        raise InvalidLots("lots of the scheme's houses are wanted")
    # What a lot sees, each lot sees that it is within: often one look at all houses is enough.
    if len(lots) > 1 and is_blind(scheme, tuple(range(scheme.houses))):
        return True
    for lot in greatest_lots(scheme.houses, lots):
        if not is_blind(scheme, lot):
            return False
    return True


def shows_other(scheme):
    """Whether for some wish another book is shown."""
    check_shaded(scheme)
    return any([is_other_shown(scheme, wish) for wish in range(scheme.books)])


def shaded_scheme(prime, houses, lots, books):
    """A right scheme, unseen by the lots, that shows no other book and needs just as many letters."""
    check_prime(prime)
    check_housed(houses, lots)
    check_between(books, 2, MOST_HELD)
    parts, most = parts_of(houses, lots)
    many = sum(parts)
    if many == most:
        raise Refused(("all",))
    if prime < many:
        raise Refused(("prime", many))
    return made_shaded(prime, parts, most, books)
