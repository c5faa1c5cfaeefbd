"""What the tests share: example blocks, wrong values, and sums of their own."""

import importlib
import itertools
import os
import time
import unittest

from fetchunseen import errors
from fetchunseen.books.library import Library
from fetchunseen.house.desk import Desk
from fetchunseen.scheme.schemes import Scheme
from fetchunseen.shade.shaded import Shaded

# What is told of an object, and by which of it an equal one is made.
NAMES = {
    Library: ("prime", "books", "many", "length", "row"),
    Scheme: ("prime", "houses", "books", "length", "is_mixed", "wishes", "width"),
    Shaded: ("prime", "houses", "books", "length", "drawn", "shared", "wishes", "sums"),
    Desk: ("prime", "houses", "books", "length", "library", "lots", "scheme", "calls"),
}
MADE_BY = {Library: 2, Scheme: 6, Shaded: 7}
TOP = os.path.dirname(os.path.dirname(os.path.abspath(__file__)))


# What the blocks of later sections take from sections ahead.
TAKEN = {
    "fetchunseen.lots.lots": ("all_lots", "lone_lots"),
    "fetchunseen.books.library": ("Library",),
    "fetchunseen.scheme.schemes": ("Scheme", "all_scheme", "mean", "open_scheme"),
    "fetchunseen.scheme.right": ("is_right",),
    "fetchunseen.scheme.sight": ("is_unseen",),
}


def run_examples(test, module_name, block):
    """Run a block of examples with the names of one module, and some of those ahead."""
    names = {name: getattr(importlib.import_module(path), name) for path, told in TAKEN.items() for name in told}
    names.update(vars(importlib.import_module(module_name)))
    lines = block.strip().split("\n")
    shown = 0
    for at, line in enumerate(lines):
        if not line.startswith(">>> "):
            continue
        told = lines[at + 1] if at + 1 < len(lines) and not lines[at + 1].startswith(">>>") else None
        if told is not None:
            shown += 1
        run_example(test, names, line[4:], told)
    return shown


def run_example(test, names, code, told):
    with test.subTest(code=code):
        if told is None:
            exec(code, names)
        elif told.startswith("raises "):
            check_raises(test, names, code, told[len("raises "):])
        else:
            test.assertEqual(repr(eval(code, names)), told)


def check_raises(test, names, code, told):
    name, _, kept = told.partition("(")
    wanted = getattr(errors, name)
    with test.assertRaises(wanted) as caught:
        eval(code, names)
    test.assertIs(type(caught.exception), wanted)
    if kept:
        held = list(vars(caught.exception).values())
        test.assertEqual([repr(one) for one in held], [kept[:-1]])


def raised(function, arguments):
    """The error that the call raises, or None."""
    try:
        function(*arguments)
    except Exception as error:
        return error
    return None


def shown(value):
    """A text of all that the value consists of, objects of the package included."""
    if isinstance(value, (tuple, list)):
        return type(value).__name__ + "(" + ", ".join([shown(some) for some in value]) + ")"
    if isinstance(value, dict):
        return "{" + ", ".join([shown(key) + ": " + shown(value[key]) for key in value]) + "}"
    if type(value) in NAMES:
        told = {name: getattr(value, name) for name in NAMES[type(value)]}
        if isinstance(value, Desk):
            told["sent"] = [value.sent(house) for house in range(value.houses)]
        return type(value).__name__ + shown(told)
    # Python refuses to write very long integers by their digits.
    return hex(value) if type(value) is int and value.bit_length() > 1000 else repr(value)


def rebuilt(value):
    """An equal value that is another object, as far as this can be."""
    if isinstance(value, (tuple, list)):
        return type(value)([rebuilt(some) for some in value])
    if type(value) in MADE_BY:
        names = NAMES[type(value)][:MADE_BY[type(value)]]
        return type(value)(*[rebuilt(getattr(value, name)) for name in names])
    return value.twin() if isinstance(value, Desk) else value


def number(value):
    return errors.InvalidNumber, "given", value


def plain(name):
    """An expected error that takes a message alone."""
    return lambda value: (getattr(errors, name), None, None)


ROW, ROWS, LOTS = plain("InvalidRow"), plain("InvalidRows"), plain("InvalidLots")
FRACTION, OPERATION = plain("InvalidFraction"), plain("InvalidOperation")
LIBRARY, SCHEME, ANSWERS = plain("InvalidLibrary"), plain("InvalidScheme"), plain("InvalidAnswers")
SHADED, CLAIM = plain("InvalidShaded"), plain("InvalidClaim")


def refused(*reason):
    return errors.Refused, "reason", reason


def too_many(limit):
    return errors.TooMany, "limit", limit


class Errors(unittest.TestCase):
    """Each wrong argument alone, and each two at once."""

    def check_error(self, function, arguments, expected):
        kind, name, kept = expected
        before = shown(arguments)
        error = raised(function, arguments)
        told = f"{function.__name__}{before[:300]}"
        self.assertIs(type(error), kind, told)
        self.assertEqual(shown(arguments), before, told)
        if name is not None:
            self.assertIs(type(getattr(error, name)), type(kept), told)
            self.assertEqual(getattr(error, name), kept, told)

    def check_arguments(self, function, good, wrong):
        """`wrong` has for each parameter None, or the pair (expected, wrong values)."""
        self.assertIsNone(raised(function, good), function.__name__)
        judged = [at for at, some in enumerate(wrong) if some is not None]
        for at in judged:
            expected, values = wrong[at]
            for value in values:
                self.check_error(function, placed(good, {at: value}), expected(value))
        for at, later in itertools.combinations(judged, 2):
            expected, values = wrong[at]
            for value in values[::3] + values[-2:]:
                for other in wrong[later][1][::2]:
                    self.check_error(function, placed(good, {at: value, later: other}), expected(value))
        if len(judged) > 1:
            expected, values = wrong[judged[0]]
            for value in values:
                rest = {at: wrong[at][1][-1] for at in judged[1:]}
                self.check_error(function, placed(good, {**rest, judged[0]: value}), expected(value))

    def check_accepts(self, function, before, values):
        """Each value is judged by False, and none raises an error."""
        for value in values:
            told = shown(value)
            self.assertIs(function(*before, value), False, told[:300])
            self.assertEqual(shown(value), told)

    def check_bent(self, judge, before, own, good, values):
        """The judge and the test's own one tell the same of what is bent at each place of a good value."""
        self.assertIs(judge(*before, good), True)
        taken = 0
        for path in paths(good):
            for value in values:
                bent = put(good, path, value)
                told = judge(*before, bent)
                self.assertIs(told, own(*before, bent), shown(bent)[:400])
                taken += told
        return taken

    def check_within(self, seconds, function, *arguments):
        """What the call returns, if it does so in time."""
        start = time.monotonic()
        made = function(*arguments)
        self.assertLess(time.monotonic() - start, seconds, function.__name__)
        return made

    def check_twice(self, function, argument_lists):
        """Equal calls return equal results, and change no argument."""
        for arguments in argument_lists:
            before = shown(arguments)
            self.assertEqual(shown(function(*arguments)), shown(function(*rebuilt(arguments))))
            self.assertEqual(shown(arguments), before)


def placed(good, changes):
    return tuple([changes.get(at, value) for at, value in enumerate(good)])


def deep(many, seed, kind):
    made = seed
    for _ in range(many):
        made = kind([made])
    return made


def objects():
    """Objects of the package."""
    library = Library(5, ((1, 2), (3, 4)))
    scheme = Scheme(5, 1, 1, 1, False, (((1, (((1,),),)),),))
    shaded = Shaded(5, 1, 1, 1, 0, 0, (((((((1,), (), ()),),)), ((1,),)),))
    desk = Desk(5, 1, 1, 1)
    return [errors.InvalidRow("a row"), errors.Refused(("zero",)), errors.InvalidNumber(3), library, scheme, shaded, desk]


# Values of kinds that are never an integer, and integers that never are within bounds.
KINDS = [
    None, True, False, "", "7", "rank\n", "x" * 3000, [], [1], [(1, 0)], {}, {1: 2}, {"rank": (1, 2)},
    deep(12, 1, tuple), deep(12, 1, list), deep(11, (), tuple), [[], ()], *objects(),
]
FAR = [-1, 10 ** 60, -10 ** 60, 10 ** 99, 10 ** 100 - 1, 1 - 10 ** 100]
NUMBERS = KINDS + [(), (3,), ((1, 2),)] + FAR
PRIMES = NUMBERS + [0, 1, 4, 9, 91, 9971, 9974, 9979, 10007]


def others_than(kind):
    """Values that are no objects of the class."""
    return [value for value in KINDS if not isinstance(value, kind)] + FAR + [(), 3, (3,), ((1, 2),)]


def beyond(many):
    """What is no index from 0 to many - 1."""
    return NUMBERS + [many, many + 1, 10 ** 59]


def no_order(many):
    """What is no tuple of the indices from 0 to many - 1, each once."""
    good = tuple(range(many))
    return KINDS + FAR + [
        3, (), good[1:], good + (many,), good[:-1] + (many,), (good[0],) * (many + 1), (-1,) + good[1:], (True,) + good[1:],
        (False,) + good[1:], good[:-1] + (None,), list(good), tuple([(one,) for one in good]), (10 ** 60,) + good[1:],
        tuple([str(one) for one in good]), good + good, {one: one for one in good}, good[:-1] + (10 ** 99,),
    ]


def no_lot(houses):
    """What is no lot of so many houses."""
    return KINDS + FAR + [
        0, (houses,), (0, houses), (0, 0), (1, 0), (-1,), (-1, 0), (True,), (False,), (0, True), [0], [], ((0,),), ((),),
        ("0",), (0, None), (10 ** 60,), (0, 10 ** 99), ({},), {0: 0}, tuple(range(houses + 1)), (errors.InvalidRow("0"),),
    ]


def letters_beyond(prime):
    return NUMBERS + [prime, prime + 1, 10 ** 59]


def no_letters(prime):
    """What is no tuple of letters, whatever its length."""
    return KINDS + FAR + [
        3, (prime,), (0, -1), (True,), (0, False), (0, None), ("0",), ((0,),), ([0],), (0, 10 ** 60),
        (0, 10 ** 99), (0,) * 101, [0] * 3, {0: 0}, (0, {}), (errors.InvalidRow("0"),),
    ]


def no_rows_one(prime):
    """What is no row."""
    return no_letters(prime) + [()]


def no_rows(prime):
    """What is no rows."""
    return KINDS + FAR + [
        3, ((),), ((), ()), ((0,), ()), ((0,), (0, 1)), ((0, 1), (0,)), ((prime,),), ((0, 0), (0, prime)),
        ((0, True),), ((False,),), ([0],), [(0,)], ((0,), [0]), ((0,), None), (0, 1), ((0,), 0), (((0,),),),
        ((0,),) * 201, ((0,) * 101,), ((0, 10 ** 60),), ((-1,),), ("ab",), ("",), ({},), {(0,): (0,)},
        (errors.InvalidRow("0"),), ((0, 10 ** 99),),
    ]


def paths(value, ahead=()):
    """All places in nested tuples."""
    found = [ahead] if ahead else []
    if isinstance(value, tuple):
        for at, some in enumerate(value):
            found.extend(paths(some, ahead + (at,)))
    return found


def put(value, path, new):
    if not path:
        return new
    return tuple([put(some, path[1:], new) if at == path[0] else some for at, some in enumerate(value)])


def is_path(value, path):
    for at in path:
        if not isinstance(value, tuple) or at >= len(value):
            return False
        value = value[at]
    return True


def all_rows(prime, width):
    return list(itertools.product(range(prime), repeat=width))


def made_of(prime, width, rows, letters):
    """The sum of the rows, each times its letter."""
    return tuple([sum([row[at] * by for row, by in zip(rows, letters)]) % prime for at in range(width)])


def span_of(prime, width, rows):
    """All rows that are made of these, as a set."""
    return {made_of(prime, width, rows, letters) for letters in all_rows(prime, len(rows))}


def told(prime, one, other):
    return sum([a * b for a, b in zip(one, other)]) % prime


def count_of_span(prime, width, rows):
    """The rank, by how many rows are made of these."""
    many, rank = len(span_of(prime, width, rows)), 0
    while prime ** rank < many:
        rank += 1
    assert prime ** rank == many
    return rank


def some_rows(random, prime, many, width):
    return tuple([tuple([random.randrange(prime) for _ in range(width)]) for _ in range(many)])


def mixed_rows(random, prime, seeds, many):
    """Rows that are made of the seeds, at random."""
    width = len(seeds[0])
    return tuple([made_of(prime, width, seeds, [random.randrange(prime) for _ in seeds]) for _ in range(many)])
