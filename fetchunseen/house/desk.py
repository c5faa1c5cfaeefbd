"""A desk that fetches books, and keeps what was sent to each house."""

from fetchunseen.base.checks import check_between, is_integer
from fetchunseen.base.fields import check_prime
from fetchunseen.books.library import Library, check_shape
from fetchunseen.bound.least import least_mean
from fetchunseen.errors import InvalidNumber, InvalidOperation, NothingToUndo, Refused, TooMany
from fetchunseen.lots.lots import MOST_LOTS, check_houses
from fetchunseen.scheme.right import is_right_scheme
from fetchunseen.scheme.runs import answers_to, asked_by, fetched
from fetchunseen.scheme.schemes import all_scheme, check_lot, check_scheme, check_wish, many_sums, mean_of_wish
from fetchunseen.scheme.sight import seen_by, seen_paper

MOST_CALLS = 400


class Desk:
    """A library, lots, and a scheme that is right and that none of the lots sees through."""

    def __init__(self, prime, houses, books, length):
        check_prime(prime)
        check_houses(houses)
        check_shape(prime, books, length)
        self.prime = prime
        self.houses = houses
        self.books = books
        self.length = length
        self.library = Library(prime, ((0,) * length,) * books)
        self.lots = ()
        self.scheme = plain_scheme(self)
        self.calls = 0
        # What was sent, for each fetch that stands; and what stood ahead of each call.
        self._asked = ()
        self._past = []

    def put_letter(self, book, place, letter):
        """This letter stands there from now on."""
        library = self.library.with_letter(book, place, letter)
        call(self, (library, self.lots, self.scheme, self._asked))

    def put_lot(self, lot):
        """One lot more; the plain scheme if it sees through this one."""
        check_lot(self.scheme, lot)
        if lot in self.lots:
            raise InvalidOperation("the lot is there")
        if len(self.lots) == MOST_LOTS:
            raise TooMany(MOST_LOTS)
        scheme = self.scheme if seen_by(self.scheme, lot) is None else plain_scheme(self)
        call(self, (self.library, tuple(sorted(self.lots + (lot,))), scheme, self._asked))

    def take_lot(self, lot):
        """One lot less; the scheme stays."""
        check_lot(self.scheme, lot)
        if lot not in self.lots:
            raise InvalidOperation("the lot is not there")
        lots = tuple([other for other in self.lots if other != lot])
        call(self, (self.library, lots, self.scheme, self._asked))

    def set_scheme(self, scheme):
        """This scheme from now on."""
        check_scheme(scheme)
        if shape_of(scheme) != shape_of(self):
            raise InvalidOperation("the scheme is of another shape")
        if not is_right_scheme(scheme):
            raise Refused(("wrong",))
        if seen_paper(scheme, self.lots) != ("unseen",):
            raise Refused(("seen",))
        call(self, (self.library, self.lots, scheme, self._asked))

    def fetch(self, wish, draw):
        """The letters of the wished book, and how many came."""
        asks = asked_by(self.scheme, wish, draw)
        answers = answers_to(self.library, asks)
        book = fetched(self.scheme, wish, draw, answers)
        call(self, (self.library, self.lots, self.scheme, self._asked + (asks,)))
        return (book, len(answers))

    def costs(self, wish):
        """The mean of the scheme for the wish, and the least mean for the lots."""
        check_wish(self.scheme, wish)
        return (mean_of_wish(self.scheme, wish), least_mean(self.houses, self.lots, self.books, self.length))

    def sent(self, house):
        """For each fetch that stands the sums that the house was sent."""
        check_between(house, 0, self.houses - 1)
        return tuple([asks[house] for asks in self._asked])

    def account(self):
        """How many fetches stand, and how many letters came by them."""
        return (len(self._asked), sum([many_sums(asks) for asks in self._asked]))

    def undo(self, *, calls=1):
        """Take so many calls back."""
        if not is_integer(calls) or calls < 1:
            raise InvalidNumber(calls)
        if calls > self.calls:
            raise NothingToUndo(calls)
        left = self.calls - calls
        state = self._past[left]
        self._past = self._past[:left]
        put_back(self, state)

    def twin(self):
        """An equal desk that goes its own ways."""
        other = Desk(self.prime, self.houses, self.books, self.length)
        other._past = list(self._past)
        put_back(other, state_of(self))
        return other

    def __eq__(self, value):
        return isinstance(value, Desk) and state_of(self) == state_of(value)

    def __str__(self):
        return f"desk of {self.books} books of {self.length} letters at {self.houses} houses, {self.calls} calls"


def shape_of(some):
    """The numbers that the desk and its scheme have in common."""
    return (some.prime, some.houses, some.books, some.length)


def plain_scheme(desk):
    """The scheme that asks house 0 for all letters."""
    return all_scheme(desk.prime, desk.houses, desk.books, desk.length, 0)


def state_of(desk):
    """All that calls can change."""
    return (desk.library, desk.lots, desk.scheme, desk._asked)


def put_back(desk, state):
    """Let the desk stand like this; the calls are those that are kept."""
    desk.library, desk.lots, desk.scheme, desk._asked = state
    desk.calls = len(desk._past)


def call(desk, state):
    """One call more, behind which the desk stands like this."""
    if desk.calls == MOST_CALLS:
        raise TooMany(MOST_CALLS)
    desk._past.append(state_of(desk))
    put_back(desk, state)
