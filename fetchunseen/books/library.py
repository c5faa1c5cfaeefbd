"""Libraries: books of letters, rows that ask for them, and the parts of rows."""

from fetchunseen.base.checks import check_between, is_order
from fetchunseen.base.fields import are_letters, check_letter, check_prime
from fetchunseen.base.rows import MOST_WIDTH, check_row, told_at
from fetchunseen.errors import InvalidLibrary, InvalidOperation, TooMany

MOST_HELD = 4


def most_length(books):
    """How long so many books can be at most."""
    return MOST_WIDTH // books


def check_books(books):
    """Refuse what is no number of books."""
    check_between(books, 1, MOST_HELD)


def check_length(books, length):
    """Refuse what is no length of so many books."""
    check_between(length, 1, most_length(books))


def check_order(order, many):
    """Refuse what is no tuple of so many indices, each once."""
    if not is_order(order, many):
        raise InvalidOperation("a tuple of all indices, each once, is wanted")


def check_width(row, width):
    """Refuse a row of another width."""
    if len(row) != width:
        raise InvalidOperation("the row is of another width")


def check_parted(prime, books, row):
    """Refuse what is no prime, no number of books or no row."""
    check_prime(prime)
    check_books(books)
    check_row(prime, row)


def are_books(prime, value):
    """Whether the value is 1 to 4 books of equally many letters, at most 100 in all."""
    if not isinstance(value, tuple) or not 1 <= len(value) <= MOST_HELD:
        return False
    if not all([are_letters(prime, book, 1, most_length(len(value))) for book in value]):
        return False
    return all([len(book) == len(value[0]) for book in value])


# What follows up to moved takes what is known to fit, without checks.


def part_at(length, row, book):
    """The part of the row at the book."""
    return row[book * length:(book + 1) * length]


def parts_at(books, row):
    """The parts of the row at all books."""
    length = len(row) // books
    return [part_at(length, row, book) for book in range(books)]


def in_one(parts):
    """The row of all parts, one behind the other."""
    row = []
    for letters in parts:
        row.extend(list(letters))
    return tuple(row)


def joined_parts(books, one, other):
    """The row whose parts are those of the one and, behind them, of the other."""
    return in_one([ahead + behind for ahead, behind in zip(parts_at(books, one), parts_at(books, other))])


def moved(values, order):
    """The tuple in which the value k has become the value order[k]."""
    return tuple([values[order.index(at)] for at in range(len(values))])


def moved_row(books, row, order):
    """The row whose part at book order[k] is that of the row at book k."""
    return in_one(moved(parts_at(books, row), order))


class Library:
    """Some books of one length."""

    def __init__(self, prime, books):
        check_prime(prime)
        if not are_books(prime, books):
            raise InvalidLibrary("1 to 4 books of equally many letters, at most 100 in all, are wanted")
        self.prime = prime
        self.books = books
        self.many = len(books)
        self.length = len(books[0])
        self.row = in_one(books)

    def told(self, row):
        """The letter that the row tells."""
        check_row(self.prime, row)
        check_width(row, len(self.row))
        return told_at(self.prime, row, self.row)

    def with_letter(self, book, place, letter):
        """The library with this letter there."""
        check_between(book, 0, self.many - 1)
        check_between(place, 0, self.length - 1)
        check_letter(self.prime, letter)
        changed = self.books[book][:place] + (letter,) + self.books[book][place + 1:]
        return Library(self.prime, self.books[:book] + (changed,) + self.books[book + 1:])

    def exchanged(self, order):
        """The library in which book k has become book order[k]."""
        check_order(order, self.many)
        return Library(self.prime, moved(self.books, order))

    def less(self, other):
        """The row of this library less that of the other one."""
        check_library(other)
        if (self.prime, self.many, self.length) != (other.prime, other.many, other.length):
            raise InvalidOperation("the libraries are of unlike shapes")
        return tuple([(own - letter) % self.prime for own, letter in zip(self.row, other.row)])

    def __eq__(self, value):
        return isinstance(value, Library) and self.prime == value.prime and self.books == value.books

    def __str__(self):
        return f"library of {self.many} books of {self.length} letters modulo {self.prime}"


def check_library(library):
    """Refuse what is no library."""
    if not isinstance(library, Library):
        raise InvalidLibrary("a library is wanted")


def check_shape(prime, books, length):
    """Refuse what is no prime, no number of books or no length of them."""
    check_prime(prime)
    check_books(books)
    check_length(books, length)


def library_of(prime, books, length, row):
    """The library with this row."""
    check_shape(prime, books, length)
    check_row(prime, row)
    check_width(row, books * length)
    return Library(prime, tuple(parts_at(books, row)))


def unit(prime, books, length, book, place):
    """The row with 1 at this place of the book, and 0 elsewhere."""
    check_shape(prime, books, length)
    check_between(book, 0, books - 1)
    check_between(place, 0, length - 1)
    return tuple([int(at == book * length + place) for at in range(books * length)])


def check_part(prime, books, length, row, book):
    """Refuse what is no row of this shape, or no book."""
    check_shape(prime, books, length)
    check_row(prime, row)
    check_between(book, 0, books - 1)
    check_width(row, books * length)


def part(prime, books, length, row, book):
    """The part of the row at the book."""
    check_part(prime, books, length, row, book)
    return part_at(length, row, book)


def without(prime, books, length, row, book):
    """The row with zeros as its part at the book."""
    check_part(prime, books, length, row, book)
    return row[:book * length] + (0,) * length + row[(book + 1) * length:]


def exchanged_row(prime, books, row, order):
    """The row whose part at book order[k] is that of the row at book k."""
    check_parted(prime, books, row)
    check_order(order, books)
    if len(row) % books != 0:
        raise InvalidOperation("the width is no multiple of the number of books")
    return moved_row(books, row, order)


def joined_rows(prime, books, one, other):
    """The row whose parts are those of the one and, behind them, of the other."""
    check_parted(prime, books, one)
    check_row(prime, other)
    if len(one) % books != 0 or len(other) % books != 0:
        raise InvalidOperation("a width is no multiple of the number of books")
    if len(one) + len(other) > MOST_WIDTH:
        raise TooMany(MOST_WIDTH)
    return joined_parts(books, one, other)
