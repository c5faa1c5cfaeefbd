"""Texts of libraries, lots and schemes: written line by line, and read back."""

from fetchunseen.base.checks import is_ascending, is_between
from fetchunseen.base.fields import MOST_TIMES, are_letters, is_prime
from fetchunseen.books.library import MOST_HELD, Library, check_library, most_length
from fetchunseen.errors import InvalidOperation, ParseError
from fetchunseen.lots.lots import MOST_HOUSES, MOST_LOTS, check_housed
from fetchunseen.scheme.schemes import MOST_ASKED, MOST_COINS, MOST_SUMS, Scheme, check_scheme, kind_of, many_sums

MOST_TEXT = 300000
MOST_DIGITS = 10


def is_text(value):
    """Whether the value is a string that is not too long, of printable signs and newlines."""
    if not isinstance(value, str) or len(value) > MOST_TEXT:
        return False
    return all([" " <= sign <= "~" or sign == "\n" for sign in value])


def is_number_word(word):
    """Whether the word is an integer by its digits alone, without zeros ahead."""
    # No number that is let has more digits, and Python reads very long ones not at all.
    if not word.isdigit() or len(word) > MOST_DIGITS:
        return False
    return word == "0" or word[0] != "0"


class Lines:
    """The lines of a text, read one behind the other."""

    def __init__(self, text):
        if not is_text(text):
            raise InvalidOperation("a text of printable signs is wanted")
        pieces = text.split("\n")
        self.rows = [piece.split(" ") for piece in pieces[:-1]]
        self.rest = pieces[-1]
        self.at = 0

    def words(self):
        """The words of the line that is due; none behind the last one."""
        return self.rows[self.at] if self.at < len(self.rows) else []

    def is_due(self, word):
        """Whether the line that is due begins with the word."""
        return self.words()[:1] == [word]

    def step(self):
        """The line that was due stands."""
        self.at += 1

    def refuse_unless(self, stands):
        """Refuse the line that is due, or the text's end, unless it can stand."""
        if not stands:
            raise ParseError(self.at)

    def numbers(self, ahead):
        """The numbers behind so many told words of the line that is due."""
        self.refuse_unless(self.words()[:len(ahead)] == ahead)
        words = self.words()[len(ahead):]
        self.refuse_unless(all([is_number_word(word) for word in words]))
        return tuple([int(word) for word in words])

    def close(self):
        """Refuse the line that is due unless it is the end, and what is behind it."""
        self.refuse_unless(self.words() == ["end"])
        self.step()
        self.refuse_unless(self.at == len(self.rows) and self.rest == "")


def line_of(word, values):
    """The line of the word and the values."""
    return " ".join([word] + [str(value) for value in values])


def text_of(lines):
    """The text of the lines, and the last one."""
    return "\n".join(lines + ["end"]) + "\n"


def library_text(library):
    """The text of a library."""
    check_library(library)
    return text_of([line_of("library", (library.prime,))] + [line_of("book", book) for book in library.books])


def lots_text(houses, lots):
    """The text of lots."""
    check_housed(houses, lots)
    return text_of([line_of("lots", (houses,))] + [line_of("lot", lot) for lot in lots])


def coin_lines(times, asks):
    """The lines of a coin."""
    lines = [line_of("coin", (times,))]
    for house, sums in enumerate(asks):
        lines.extend([line_of("sum", (house,) + row) for row in sums])
    return lines


def scheme_text(scheme):
    """The text of a scheme."""
    check_scheme(scheme)
    shape = (scheme.prime, scheme.houses, scheme.books, scheme.length)
    lines = [line_of("scheme", (kind_of(scheme),) + shape)]
    for wish, coins in enumerate(scheme.wishes):
        lines.append(line_of("wish", (wish,)))
        for times, asks in coins:
            lines.extend(coin_lines(times, asks))
    return text_of(lines)


def read_library(text):
    """The library of which the text is written."""
    lines = Lines(text)
    head = lines.numbers(["library"])
    lines.refuse_unless(len(head) == 1 and is_prime(head[0]))
    lines.step()
    books = []
    while lines.is_due("book") or not books:
        book = lines.numbers(["book"])
        lines.refuse_unless(len(books) < MOST_HELD and are_letters(head[0], book, 1, most_length(len(books) + 1)))
        lines.refuse_unless(not books or len(book) == len(books[0]))
        books.append(book)
        lines.step()
    lines.close()
    return Library(head[0], tuple(books))


def read_lots(text):
    """The number of houses and the lots of which the text is written."""
    lines = Lines(text)
    head = lines.numbers(["lots"])
    lines.refuse_unless(len(head) == 1 and is_between(head[0], 1, MOST_HOUSES))
    lines.step()
    lots = []
    while lines.is_due("lot"):
        lot = lines.numbers(["lot"])
        lines.refuse_unless(len(lots) < MOST_LOTS and is_ascending(lot, head[0]))
        lines.refuse_unless(not lots or lots[-1] < lot)
        lots.append(lot)
        lines.step()
    lines.close()
    return (head[0], tuple(lots))


def is_shape(numbers):
    """Whether these are a prime, numbers of houses and of books, and a length of them."""
    if len(numbers) != 4 or not is_prime(numbers[0]):
        return False
    _, houses, books, length = numbers
    if not is_between(houses, 1, MOST_HOUSES) or not is_between(books, 1, MOST_HELD):
        return False
    return is_between(length, 1, most_length(books))


def read_sum(lines, shape, first):
    """The house and the letters of the sum that is due, for no lower house than the first."""
    prime, houses, books, length = shape
    told = lines.numbers(["sum"])
    lines.refuse_unless(len(told) > 0 and is_between(told[0], first, houses - 1))
    lines.refuse_unless(are_letters(prime, told[1:], books * length, books * length))
    lines.step()
    return told[0], told[1:]


def read_coin(lines, shape, most):
    """The coin that is due, with at most so many sums."""
    told = lines.numbers(["coin"])
    lines.refuse_unless(len(told) == 1 and is_between(told[0], 1, MOST_TIMES))
    lines.step()
    asks = [[] for _ in range(shape[1])]
    house = 0
    while lines.is_due("sum"):
        lines.refuse_unless(many_sums(asks) < most)
        house, row = read_sum(lines, shape, house)
        asks[house].append(row)
    return (told[0], tuple([tuple(sums) for sums in asks]))


def read_wish(lines, shape, wish, most):
    """The coins of the wish that is due, with at most so many sums in all."""
    lines.refuse_unless(lines.numbers(["wish"]) == (wish,))
    lines.step()
    coins = []
    left = most
    while lines.is_due("coin") or not coins:
        lines.refuse_unless(len(coins) < MOST_COINS)
        coins.append(read_coin(lines, shape, min(MOST_SUMS, left)))
        left = left - many_sums(coins[-1][1])
    return tuple(coins)


def read_scheme(text):
    """The scheme of which the text is written."""
    lines = Lines(text)
    is_mixed = lines.words()[1:2] == ["mixed"]
    shape = lines.numbers(["scheme", "mixed" if is_mixed else "plain"])
    lines.refuse_unless(is_shape(shape))
    lines.step()
    wishes = []
    left = MOST_ASKED
    for wish in range(shape[2]):
        wishes.append(read_wish(lines, shape, wish, left))
        left = left - sum([many_sums(asks) for _, asks in wishes[-1]])
    lines.close()
    prime, houses, books, length = shape
    return Scheme(prime, houses, books, length, is_mixed, tuple(wishes))
