"""Shaded schemes for tests, and what is told of them by trying all letters."""

from collections import Counter

from fetchunseen.shade.shaded import Shaded
from tests.shapes import all_libraries, some_row
from tests.support import all_rows, made_of, told

SEVEN = ("prime", "houses", "books", "length", "drawn", "shared", "wishes")
TABLE = ((1, 0), (0, 1))
# Two houses, two books of one letter, two drawn letters, one shared.
SHADE = Shaded(3, 2, 2, 1, 2, 1, tuple([
    ((((row, TABLE, (1,)),), ((last, TABLE, (1,)),)), ((2, 1),)) for row, last in (((1, 0), (2, 0)), ((0, 1), (0, 2)))]))
# No drawn and no shared letter; house 1 is asked for the wish openly, house 0 for nothing.
OPENED = Shaded(5, 2, 2, 1, 0, 0, ((((), (((1, 0), (), ()),)), ((1,),)), (((), (((0, 1), (), ()),)), ((1,),))))
# Everything is asked: unseen, right, and it shows the other book.
EVERY = Shaded(2, 1, 2, 1, 0, 0, tuple([(((((1, 0), (), ()), ((0, 1), (), ())),), ((1 - wish, wish),)) for wish in (0, 1)]))
# No ask at all: unseen, shows nothing, and tells nothing.
SILENT = Shaded(2, 2, 2, 1, 1, 1, ((((), ()), ((),)),) * 2)
# An ask of zeros, and asks that are alike, one of them for nothing.
TWICE = Shaded(2, 2, 1, 1, 1, 1, ((((((1,), ((0,),), (0,)), ((1,), ((0,),), (0,))), (((0,), ((0,),), (0,)),)), ((1, 0, 1),)),))


def seven(scheme):
    return tuple([getattr(scheme, name) for name in SEVEN])


def bent_seven(scheme, **changes):
    return tuple([changes.get(name, value) for name, value in zip(SEVEN, seven(scheme))])


def own_sent(scheme, wish, drawn):
    """The sum of the ask and of each drawn letter's sum times this letter."""
    width = scheme.books * scheme.length
    return tuple([tuple([made_of(scheme.prime, width, (row,) + rows, (1,) + drawn) for row, rows, _ in asked]) for asked in scheme.wishes[wish][0]])


def own_run(scheme, wish, drawn, shared, library):
    letters = [letter for book in library.books for letter in book]
    answers = []
    for asked, sent in zip(scheme.wishes[wish][0], own_sent(scheme, wish, drawn)):
        answers.append(tuple([(told(scheme.prime, row, letters) + told(scheme.prime, ask[2], shared)) % scheme.prime for ask, row in zip(asked, sent)]))
    told_all = [letter for some in answers for letter in some]
    return tuple(answers), tuple([told(scheme.prime, reading, told_all) for reading in scheme.wishes[wish][1]])


def all_runs(scheme, wish):
    """For all drawn letters and libraries: these, and for all shared letters the runs."""
    libraries = all_libraries(scheme.prime, scheme.books, scheme.length)
    for drawn in all_rows(scheme.prime, scheme.drawn):
        for library in libraries:
            yield drawn, library, [own_run(scheme, wish, drawn, shared, library) for shared in all_rows(scheme.prime, scheme.shared)]


def try_all(scheme):
    """The pair: whether it is right, and whether for some wish another book is shown."""
    is_right, is_shown = True, False
    for wish in range(scheme.books):
        seen = {}
        for drawn, library, runs in all_runs(scheme, wish):
            is_right = is_right and all([letters == library.books[wish] for _, letters in runs])
            often = tuple(sorted(Counter([answers for answers, _ in runs]).items()))
            seen.setdefault((drawn, library.books[wish]), set()).add(often)
        is_shown = is_shown or any([len(some) > 1 for some in seen.values()])
    return is_right, is_shown


def own_views(scheme, wish, lot):
    """How often the lot sees what, over all drawn letters."""
    weights = [[ask[2] for ask in scheme.wishes[wish][0][house]] for house in lot]
    counted = Counter()
    for drawn in all_rows(scheme.prime, scheme.drawn):
        sent = own_sent(scheme, wish, drawn)
        counted[repr(([sent[house] for house in lot], weights))] += 1
    return counted


def own_sees(scheme, lot):
    views = [own_views(scheme, wish, lot) for wish in range(scheme.books)]
    return any([some != views[0] for some in views])


def some_asks(random, prime, houses, width, drawn, shared, most):
    asks = []
    for _ in range(houses):
        sums = [(some_row(random, prime, width), tuple([some_row(random, prime, width) for _ in range(drawn)]),
                 tuple([random.randrange(prime) for _ in range(shared)])) for _ in range(random.randrange(most + 1))]
        if sums and random.randrange(4) == 0:
            sums.append(random.choice(sums))
        asks.append(tuple(sums))
    return tuple(asks)


def some_shaded(random, prime, houses, books, length, drawn, shared, most=2):
    """A shaded scheme of all kinds of asks; at times the wishes are asked alike."""
    wishes, width = [], books * length
    for _ in range(books):
        asks = some_asks(random, prime, houses, width, drawn, shared, most)
        if wishes and random.randrange(2):
            asks = wishes[-1][0]
        many = sum([len(asked) for asked in asks])
        wishes.append((asks, tuple([tuple([random.randrange(prime) for _ in range(many)]) for _ in range(length)])))
    return Shaded(prime, houses, books, length, drawn, shared, tuple(wishes))


def great_shaded(random, prime, books, length, same=True):
    """40 drawn letters, 8 shared ones, 24 asks at 6 houses for each wish."""
    width = books * length
    def row(many):
        return tuple([random.randrange(prime) for _ in range(many)])
    drawn = [tuple([row(width) for _ in range(40)]) for _ in range(24)]
    weights = [row(8) for _ in range(24)]
    wishes = []
    for wish in range(books):
        turned = drawn if same else [rows[wish:] + rows[:wish] for rows in drawn]
        asks = [((0,) * width, rows, some) for rows, some in zip(turned, weights)]
        wishes.append((tuple([tuple(asks[at * 4:at * 4 + 4]) for at in range(6)]), tuple([row(24) for _ in range(length)])))
    return Shaded(prime, 6, books, length, 40, 8, tuple(wishes))
