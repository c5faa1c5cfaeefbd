"""Stage 22: a desk."""

import itertools
import random
import unittest
from collections import Counter

from fetchunseen.base.fields import next_prime
from fetchunseen.bound.least import least_mean
from fetchunseen.errors import NothingToUndo
from fetchunseen.house.desk import Desk
from fetchunseen.lots.lots import all_lots, lone_lots
from fetchunseen.make.lone import lone_scheme
from fetchunseen.make.lots import joined_houses, lots_scheme
from fetchunseen.make.sums import sums_scheme
from fetchunseen.scheme.right import is_right
from fetchunseen.scheme.runs import asked_by, draws
from fetchunseen.scheme.schemes import Scheme, all_scheme, mean, open_scheme
from fetchunseen.scheme.sight import is_unseen
from fetchunseen.shade.shaded import shaded_scheme
from tests.shapes import LONE, MIX, MIXED, PAIR, TORN, every_lot, six, some_scheme
from tests.support import Errors, FAR, KINDS, LOTS, OPERATION, PRIMES, SCHEME, beyond, letters_beyond, no_lot, number, others_than, raised, refused
from tests.support import shown, too_many
from tests.test_chain import unlike_times
from tests.test_make_lots import SQUARE
from tests.test_right import ONE
from tests.test_weights import RING

KEPT = ("prime", "houses", "books", "length")


class Own:
    """What a desk is to tell, worked out anew from just the calls that stand."""

    def __init__(self, shape, calls):
        self.shape = shape
        prime, houses, books, length = shape
        self.books = [[0] * length for _ in range(books)]
        self.lots, self.asks, self.told = [], [], None
        self.plain = self.scheme = all_scheme(prime, houses, books, length, 0)
        for name, arguments in calls:
            self.told = getattr(self, name)(*arguments)
        self.many = len(calls)

    def put_letter(self, book, place, letter):
        self.books[book][place] = letter

    def put_lot(self, lot):
        self.lots = sorted(self.lots + [lot])
        if not is_unseen(self.scheme, (lot,)):
            self.scheme = self.plain

    def take_lot(self, lot):
        self.lots.remove(lot)

    def set_scheme(self, scheme):
        self.scheme = scheme

    def fetch(self, wish, draw):
        self.asks.append(asked_by(self.scheme, wish, draw))
        return tuple(self.books[wish]), sum([len(sums) for sums in self.asks[-1]])

    def fault(self, name, arguments):
        """The error that the call is to raise, or None; wrong kinds aside."""
        prime, houses, books, length = self.shape
        if name == "put_letter":
            for value, most in zip(arguments, (books, length, prime)):
                if not 0 <= value < most:
                    return number(value)
        if name in ("put_lot", "take_lot"):
            lot = arguments[0]
            if list(lot) != sorted(set(lot)) or any([not 0 <= house < houses for house in lot]):
                return LOTS(None)
            if (lot in self.lots) != (name == "take_lot"):
                return OPERATION(None)
            if name == "put_lot" and len(self.lots) == 12:
                return too_many(12)
        if name == "set_scheme":
            scheme = arguments[0]
            if (scheme.prime, scheme.houses, scheme.books, scheme.length) != self.shape:
                return OPERATION(None)
            if not is_right(scheme):
                return refused("wrong")
            if not is_unseen(scheme, tuple(self.lots)):
                return refused("seen")
        if name == "fetch":
            if not 0 <= arguments[0] < books:
                return number(arguments[0])
            if not 0 <= arguments[1] < draws(self.scheme, arguments[0]):
                return number(arguments[1])
        return too_many(400) if self.many >= 400 else None


class Desks(Errors):
    def check_desk(self, desk, calls):
        """[22.2], [22.3]"""
        own = Own(tuple([getattr(desk, name) for name in KEPT]), calls)
        self.assertEqual(shown(desk.library.books), shown(tuple([tuple(book) for book in own.books])))
        self.assertEqual(desk.library.prime, desk.prime)
        self.assertEqual(shown(desk.lots), shown(tuple(own.lots)))
        self.assertEqual(shown(desk.scheme), shown(own.scheme))
        self.assertEqual(shown(desk.calls), str(len(calls)))
        self.assertIs(is_right(desk.scheme), True)
        self.assertIs(is_unseen(desk.scheme, desk.lots), True)
        for house in range(desk.houses):
            self.assertEqual(shown(desk.sent(house)), shown(tuple([asks[house] for asks in own.asks])))
        self.assertEqual(desk.account(), (len(own.asks), sum([len(sums) for asks in own.asks for sums in asks])))
        for wish in range(desk.books):
            least = least_mean(desk.houses, desk.lots, desk.books, desk.length)
            self.assertEqual(desk.costs(wish), (mean(own.scheme, wish), least))
        self.assertEqual(str(desk), f"desk of {desk.books} books of {desk.length} letters at {desk.houses} houses, {len(calls)} calls")
        return own

    def call(self, desk, calls, name, arguments):
        """Do one call: what it tells, or that it is refused and changes nothing."""
        own = Own(tuple([getattr(desk, kept) for kept in KEPT]), calls)
        expected = own.fault(name, arguments)
        before = shown(desk)
        if expected is not None:
            self.check_error(getattr(desk, name), arguments, expected)
            self.assertEqual(shown(desk), before)
            return False
        told = getattr(desk, name)(*arguments)
        calls.append((name, arguments))
        self.assertEqual(shown(told), shown(Own(own.shape, calls).told))
        return True

    def again(self, desk, calls):
        """A new desk with just these calls."""
        other = Desk(*[getattr(desk, name) for name in KEPT])
        for name, arguments in calls:
            getattr(other, name)(*arguments)
        return other


def schemes_for(prime, houses, books, length):
    """Schemes of this shape and of others; right ones and wrong ones."""
    generator = random.Random(240)
    found = [all_scheme(prime, houses, books, length, house) for house in range(houses)]
    found += [open_scheme(prime, houses, books, length, house) for house in range(houses)]
    found += [lone_scheme(2, 2, 2), LONE, PAIR, MIX, MIXED, TORN, ONE, unlike_times(), lone_scheme(prime, 3, 2), lots_scheme(prime, houses, (tuple(range(houses)),), books)]
    found += [joined_houses(LONE, (1, 0, 1)), joined_houses(LONE, (0, 2))]
    found += [some_scheme(generator, prime, houses, books, length, mixed) for mixed in (True, False)]
    return found


class TestCalls(Desks):
    """[22.1] to [22.3]"""

    def some_call(self, generator, desk, schemes):
        name = generator.choice(["put_letter", "put_lot", "put_lot", "take_lot", "set_scheme", "set_scheme", "fetch", "fetch"])
        if name == "put_letter":
            return name, (generator.randrange(-1, desk.books + 1), generator.randrange(-1, desk.length + 1), generator.randrange(desk.prime + 1))
        if name in ("put_lot", "take_lot"):
            lots = every_lot(desk.houses) + [(0, desk.houses), (0, 0)]
            return name, (generator.choice(list(desk.lots) or lots) if generator.randrange(3) == 0 else generator.choice(lots),)
        if name == "set_scheme":
            return name, (generator.choice(schemes),)
        wish = generator.randrange(desk.books + (generator.randrange(6) == 0))
        many = draws(desk.scheme, min(wish, desk.books - 1))
        return name, (wish, generator.choice([0, many - 1, generator.randrange(many), many, -1]))

    def test_rows_of_calls(self):
        generator = random.Random(241)
        refused_calls = done = 0
        for shape in ((2, 2, 2, 1), (2, 3, 2, 1), (3, 3, 2, 2), (5, 2, 2, 4), (2, 1, 1, 1), (3, 2, 2, 1), (2, 2, 4, 1), (7, 4, 3, 2)):
            schemes = schemes_for(*shape)
            if shape == (5, 2, 2, 4):
                schemes += [sums_scheme(5, 2, 1, 2)] * 5
            for _ in range(4):
                desk, calls, twins = Desk(*shape), [], []
                for step in range(40):
                    kind = generator.randrange(12)
                    if kind == 0 and calls:
                        many = generator.randrange(1, min(4, len(calls) + 1))
                        self.assertIsNone(desk.undo(calls=many))
                        del calls[-many:]
                    elif kind == 1:
                        twins.append((desk.twin(), list(calls)))
                        self.assertTrue(twins[-1][0] == desk)
                        desk, calls = (twins.pop(generator.randrange(len(twins))) if generator.randrange(2) else (desk, calls))
                    elif self.call(desk, calls, *self.some_call(generator, desk, schemes)):
                        done += 1
                    else:
                        refused_calls += 1
                    if step % 5 == 0:
                        self.check_desk(desk, calls)
                        other = self.again(desk, calls)
                        self.assertTrue(other == desk and desk == other and not desk != other)
                        self.assertEqual(shown(other), shown(desk))
                for some, own_calls in twins + [(desk, calls)]:
                    self.check_desk(some, own_calls)
                    while own_calls:
                        some.undo()
                        own_calls.pop()
                        if len(own_calls) % 7 == 0:
                            self.check_desk(some, own_calls)
                    self.assertTrue(some == Desk(*shape))
        self.assertGreater(min(refused_calls, done), 150)

    def test_new(self):
        for shape in ((2, 1, 1, 1), (9973, 6, 4, 25), (3, 2, 1, 100), (5, 3, 2, 50), (7, 4, 3, 33)):
            desk = Desk(*shape)
            own = self.check_desk(desk, [])
            self.assertEqual(own.scheme, all_scheme(*shape, 0))
            self.assertEqual(desk.costs(0), ((shape[2] * shape[3], 1), (shape[3], 1)))
            with self.assertRaises(TypeError):
                iter(desk)

    def test_seen_through(self):
        """A lot put that sees through the scheme: the plain one takes its place."""
        desk = Desk(2, 2, 2, 1)
        for lot in lone_lots(2):
            desk.put_lot(lot)
        desk.set_scheme(LONE)
        desk.put_lot(())
        self.assertTrue(desk.scheme == LONE)
        twin = desk.twin()
        desk.put_lot((0, 1))
        self.assertTrue(desk.scheme == all_scheme(2, 2, 2, 1, 0))
        self.assertTrue(twin.scheme == LONE)
        desk.take_lot((0, 1))
        self.assertTrue(desk.scheme == all_scheme(2, 2, 2, 1, 0))
        self.check_error(twin.set_scheme, (open_scheme(2, 2, 2, 1, 0),), refused("seen"))
        desk.undo(calls=2)
        self.assertTrue(desk == twin)
        three = Desk(2, 3, 2, 1)
        three.put_lot((0,))
        three.set_scheme(open_scheme(2, 3, 2, 1, 2))
        three.put_lot((1,))
        self.assertTrue(three.scheme == open_scheme(2, 3, 2, 1, 2))
        three.put_lot((1, 2))
        self.assertTrue(three.scheme == all_scheme(2, 3, 2, 1, 0))
        self.assertEqual(three.lots, ((0,), (1,), (1, 2)))

    def test_fetch_all_draws(self):
        """Each draw of small schemes, whatever stands in the library."""
        for shape, schemes in (((2, 2, 2, 1), [LONE, PAIR, unlike_times()]), ((3, 2, 2, 1), [MIX]), ((2, 3, 2, 2), [lone_scheme(2, 3, 2)]),
                               ((3, 3, 1, 3), [sums_scheme(5, 3, 2, 1)]), ((2, 1, 3, 1), [sums_scheme(2, 1, 1, 3)]), ((3, 2, 1, 2), [sums_scheme(3, 2, 1, 1)])):
            for scheme in schemes:
                shape = (scheme.prime, scheme.houses, scheme.books, scheme.length)
                generator = random.Random(242)
                desk = Desk(*shape)
                desk.set_scheme(scheme)
                for book, place in itertools.product(range(shape[2]), range(shape[3])):
                    desk.put_letter(book, place, generator.randrange(shape[0]))
                before = desk.calls
                for wish in range(shape[2]):
                    many = draws(scheme, wish)
                    for draw in range(min(many, 100)) if many < 10 ** 6 else (0, many // 2, many - 1):
                        told = desk.fetch(wish, draw)
                        asks = asked_by(scheme, wish, draw)
                        self.assertEqual(told, (desk.library.books[wish], sum([len(sums) for sums in asks])))
                        self.assertEqual([desk.sent(house)[-1] for house in range(shape[1])], list(asks))
                        if desk.calls > 390:
                            desk.undo(calls=desk.calls - before)
                    self.check_error(desk.fetch, (wish, many), number(many))

    def test_alike(self):
        """[22.4]"""
        for scheme, lots in ((LONE, lone_lots(2)), (lone_scheme(2, 3, 2), lone_lots(3)), (lone_scheme(3, 2, 3), ((), (0,), (1,))), (MIX, lone_lots(2)),
                             (sums_scheme(3, 1, 1, 2), ((0,),)), (all_scheme(2, 2, 3, 1, 1), ((0, 1),)), (open_scheme(3, 3, 2, 2, 1), ((0, 2),))):
            desk = Desk(scheme.prime, scheme.houses, scheme.books, scheme.length)
            for lot in lots:
                desk.put_lot(lot)
            desk.set_scheme(scheme)
            for lot in every_lot(scheme.houses):
                told = []
                for wish in range(scheme.books):
                    counted = Counter()
                    for draw in range(draws(scheme, wish)):
                        twin = desk.twin()
                        twin.fetch(wish, draw)
                        counted[repr([twin.sent(house) for house in lot])] += 1
                    told.append({key: many * 10 ** 6 // draws(scheme, wish) for key, many in counted.items()})
                alike = all([some == told[0] for some in told])
                self.assertIs(alike, is_unseen(scheme, (lot,)))
                if any([set(lot) <= set(one) for one in lots]):
                    self.assertIs(alike, True)

    def test_twins(self):
        desk = Desk(3, 2, 2, 1)
        desk.put_letter(0, 0, 2)
        desk.put_lot((1,))
        twin = desk.twin()
        self.assertTrue(twin == desk and not twin != desk)
        twin.put_letter(0, 0, 1)
        self.assertFalse(twin == desk)
        twin.undo()
        self.assertTrue(twin == desk)
        twin.undo(calls=2)
        self.assertEqual([twin.calls, desk.calls, desk.library.books[0], twin.library.books[0], twin.lots], [0, 2, (2,), (0,), ()])
        self.assertIs(type(raised(twin.undo, ())), NothingToUndo)
        desk.fetch(1, 0)
        self.check_desk(desk, [("put_letter", (0, 0, 2)), ("put_lot", ((1,),)), ("fetch", (1, 0))])
        self.check_desk(twin, [])

    def test_equal(self):
        """Equal just if library, lots, scheme and what was sent are; calls do not count."""
        one, other = Desk(2, 2, 2, 1), Desk(2, 2, 2, 1)
        one.put_letter(0, 0, 1)
        one.put_letter(0, 0, 0)
        self.assertTrue(one == other)
        self.assertNotEqual(one.calls, other.calls)
        changed = [Desk(2, 2, 2, 1) for _ in range(6)]
        changed[1].put_letter(1, 0, 1)
        changed[2].put_lot(())
        changed[3].set_scheme(PAIR)
        changed[4].fetch(0, 0)
        changed[5].fetch(0, 0)
        changed[5].fetch(1, 0)
        changed += [Desk(3, 2, 2, 1), Desk(2, 3, 2, 1), Desk(2, 2, 1, 1), Desk(2, 2, 2, 2)]
        for some, more in itertools.combinations(changed, 2):
            self.assertFalse(some == more)
            self.assertTrue(some != more)
        for value in KINDS + FAR + [one.library, one.scheme, (2, 2, 2, 1), str(one)]:
            if isinstance(value, Desk):
                self.assertFalse(one == value)
                continue
            self.assertFalse(one == value)
            self.assertTrue(one != value)

    def test_great(self):
        desk = Desk(9973, 6, 4, 25)
        generator = random.Random(243)
        for book in range(4):
            for place in range(25):
                desk.put_letter(book, place, generator.randrange(9973))
        for lot in all_lots(6, 5) + tuple([(house, 5) for house in range(5)]) + ((),):
            desk.put_lot(lot)
        self.check_error(desk.put_lot, ((0,),), too_many(12))
        for at in range(20):
            self.assertEqual(self.check_within(3, desk.fetch, at % 4, 0), (desk.library.books[at % 4], 100))
        for many, most in ((6, 5), (6, 2), (3, 2)):
            scheme = sums_scheme(next_prime(many ** 2 + 1), many, most, 2)
            made = Desk(scheme.prime, many, 2, many ** 2)
            for lot in list(itertools.combinations(range(many), most))[:12]:
                made.put_lot(lot)
            self.assertIsNone(self.check_within(5, made.set_scheme, scheme))
            made.put_letter(1, 3, 5)
            draw = generator.randrange(draws(scheme, 1))
            self.assertEqual(self.check_within(5, made.fetch, 1, draw), (made.library.books[1], made.costs(1)[0][0]))
            self.assertEqual(made.costs(1)[0], sums_mean_of(scheme))
        for lots, houses in ((SQUARE, 4), (RING, 3)):
            scheme = lots_scheme(11, houses, lots, 2)
            least = Desk(11, houses, 2, scheme.length)
            for lot in lots:
                least.put_lot(lot)
            least.set_scheme(scheme)
            self.assertEqual(least.costs(0)[0], least.costs(0)[1])


def sums_mean_of(scheme):
    return (sum([len(sums) for sums in scheme.wishes[1][0][1]]), 1)


class TestErrors(Desks):
    def setUp(self):
        self.desk = Desk(3, 3, 2, 2)

    def check_refused(self, name, good, wrong):
        """Each wrong argument alone, and two at once; nothing changes, and no call is counted."""
        before = shown(self.desk)
        for count in range(1, len(good) + 1):
            for places in itertools.combinations(range(len(good)), count):
                for at in range(max([len(wrong[place][1]) for place in places])):
                    arguments = list(good)
                    for place in places:
                        arguments[place] = wrong[place][1][(at + place) % len(wrong[place][1])]
                    first = places[0]
                    self.check_error(getattr(self.desk, name), tuple(arguments), wrong[first][0](arguments[first]))
        self.assertEqual(shown(self.desk), before)

    def test_arguments(self):
        self.check_refused("put_letter", (1, 1, 2), [(number, beyond(2)), (number, beyond(2)), (number, letters_beyond(3))])
        self.check_refused("put_lot", ((0, 1),), [(LOTS, no_lot(3))])
        self.check_refused("take_lot", ((0, 1),), [(LOTS, no_lot(3))])
        self.check_refused("set_scheme", (LONE,), [(SCHEME, others_than(Scheme) + [six(LONE), shaded_scheme(3, 3, lone_lots(3), 2)])])
        self.check_refused("fetch", (0, 0), [(number, beyond(2)), (number, beyond(1))])
        self.check_refused("costs", (0,), [(number, beyond(2))])
        self.check_refused("sent", (0,), [(number, beyond(3))])
        self.assertEqual(self.desk.calls, 0)

    def test_new(self):
        wrong = [(number, PRIMES), (number, beyond(7) + [0]), (number, beyond(5) + [0]), (number, beyond(101) + [0, 51, 100])]
        self.check_arguments(Desk, (3, 3, 2, 50), wrong)
        for books, length in ((1, 101), (2, 51), (3, 34), (4, 26), (4, 100)):
            self.check_error(Desk, (3, 3, books, length), number(length))

    def test_lots(self):
        desk = self.desk
        self.check_error(desk.take_lot, ((0,),), OPERATION(None))
        desk.put_lot((0,))
        self.check_error(desk.put_lot, ((0,),), OPERATION(None))
        self.check_error(desk.take_lot, ((),), OPERATION(None))
        six_houses = Desk(2, 6, 1, 1)
        lots = every_lot(6)[5:17]
        for lot in lots[::-1]:
            six_houses.put_lot(lot)
        self.assertEqual(six_houses.lots, tuple(lots))
        self.check_error(six_houses.put_lot, ((),), too_many(12))
        self.check_error(six_houses.put_lot, (lots[0],), OPERATION(None))
        self.check_error(six_houses.put_lot, ((6,),), LOTS(None))
        six_houses.take_lot(lots[3])
        six_houses.put_lot(())
        self.assertEqual(six_houses.lots, tuple(sorted([()] + lots[:3] + lots[4:])))

    def test_schemes(self):
        desk = Desk(2, 2, 2, 1)
        desk.put_lot((0,))
        for scheme, expected in (
            (MIX, OPERATION(None)), (all_scheme(2, 3, 2, 1, 0), OPERATION(None)), (all_scheme(2, 2, 1, 1, 0), OPERATION(None)), (all_scheme(2, 2, 2, 2, 0), OPERATION(None)),
            (ONE, OPERATION(None)), (Scheme(2, 2, 2, 1, False, (((1, ((), ())),),) * 2), refused("wrong")), (open_scheme(2, 2, 2, 1, 0), refused("seen")),
            (Scheme(2, 2, 2, 1, True, (((1, (((1, 0),), ())),), ((1, (((1, 0),), ())),))), refused("wrong")),
            (Scheme(2, 2, 2, 1, False, (LONE.wishes[0], ((1, (((1, 0),), ())),))), refused("wrong")),
        ):
            self.check_error(desk.set_scheme, (scheme,), expected)
            self.assertEqual(desk.calls, 1)
        desk.set_scheme(open_scheme(2, 2, 2, 1, 1))
        desk.set_scheme(LONE)
        self.assertEqual(desk.calls, 3)

    def test_undo(self):
        desk = self.desk
        for at in range(5):
            desk.put_letter(0, 0, at % 3)
        for value in KINDS + FAR + [0, -1, (), (1,)]:
            error = raised(lambda: desk.undo(calls=value), ())
            self.assertEqual(type(error).__name__, "InvalidNumber")
            self.assertEqual(shown(error.given), shown(value))
        for value in (6, 7, 400, 10 ** 60 - 1):
            error = raised(lambda: desk.undo(calls=value), ())
            self.assertEqual((type(error).__name__, error.wanted), ("NothingToUndo", value))
        self.assertEqual(desk.calls, 5)
        with self.assertRaises(TypeError):
            desk.undo(1)
        self.assertIsNone(desk.undo(calls=2))
        self.assertEqual([desk.calls, desk.library.books[0][0]], [3, 2])
        self.assertIsNone(desk.undo())
        self.assertIsNone(desk.undo(calls=2))
        error = raised(desk.undo, ())
        self.assertEqual((type(error).__name__, error.wanted), ("NothingToUndo", 1))
        self.assertTrue(desk == Desk(3, 3, 2, 2))

    def test_most_calls(self):
        desk = Desk(2, 2, 2, 1)
        desk.put_lot((0,))
        for at in range(399):
            desk.fetch(at % 2, 0)
        self.assertEqual([desk.calls, desk.account()], [400, (399, 798)])
        before = shown(desk)
        for name, good, wrong in (
            ("put_letter", (0, 0, 1), [((2, 0, 1), number(2)), ((0, 0, 2), number(2))]), ("put_lot", ((1,),), [((2,), LOTS(None)), (((0,),), OPERATION(None))]),
            ("take_lot", ((0,),), [(((1,),), OPERATION(None)), ((None,), LOTS(None))]), ("fetch", (0, 0), [((0, 1), number(1)), ((2, 0), number(2))]),
            ("set_scheme", (LONE,), [((MIX,), OPERATION(None)), ((None,), SCHEME(None)), ((open_scheme(2, 2, 2, 1, 0),), refused("seen"))]),
        ):
            self.check_error(getattr(desk, name), good, too_many(400))
            for arguments, expected in wrong:
                self.check_error(getattr(desk, name), arguments, expected)
        self.assertEqual(shown(desk), before)
        desk.costs(0)
        desk.sent(1)
        twin = desk.twin()
        self.check_error(twin.put_letter, (0, 0, 1), too_many(400))
        desk.undo()
        desk.put_letter(0, 0, 1)
        self.check_error(desk.put_letter, (0, 0, 1), too_many(400))
        desk.undo(calls=400)
        self.assertTrue(desk == Desk(2, 2, 2, 1))
        lots = Desk(2, 6, 1, 1)
        for lot in every_lot(6)[:12]:
            lots.put_lot(lot)
        for _ in range(388):
            lots.fetch(0, 0)
        self.check_error(lots.put_lot, ((1, 2, 3, 4),), too_many(12))
        self.check_error(lots.take_lot, ((),), too_many(400))

    def test_equal_calls(self):
        for _ in range(2):
            desk = Desk(2, 3, 2, 2)
            desk.put_lot((0,))
            desk.set_scheme(lone_scheme(2, 3, 2))
            self.assertEqual(desk.fetch(0, 1), ((0, 0), 3))
            self.assertEqual(desk.fetch(0, 1), ((0, 0), 3))
            self.assertEqual(desk.sent(2), desk.sent(2))
            self.assertEqual(desk.costs(1), desk.costs(1))
            self.assertEqual(desk.account(), desk.account())

    def test_arguments_stay(self):
        lot, scheme = (0, 2), lone_scheme(2, 3, 2)
        before = shown((lot, scheme))
        desk = Desk(2, 3, 2, 2)
        desk.put_lot(lot)
        desk.take_lot(lot)
        desk.set_scheme(scheme)
        library = desk.library
        desk.put_letter(0, 0, 1)
        desk.fetch(0, 0)
        self.assertEqual(shown((lot, scheme)), before)
        self.assertEqual(library.books, ((0, 0), (0, 0)))

    def test_not_true(self):
        """[22.5]"""
        desk = Desk(2, 2, 2, 1)
        desk.put_lot((0, 1))
        costs = desk.costs(0)[0]
        desk.take_lot((0, 1))
        self.assertEqual(desk.costs(0)[0], costs)
        one, other = desk.twin(), desk.twin()
        one.fetch(0, 0)
        other.fetch(1, 0)
        self.assertEqual([one.sent(house) for house in (0, 1)], [other.sent(house) for house in (0, 1)])
        self.assertTrue(one == other)
        desk.set_scheme(LONE)
        self.assertEqual([desk.fetch(1, 0)[1], desk.fetch(1, 1)[1], desk.costs(1)[0]], [1, 2, (3, 2)])


if __name__ == "__main__":
    unittest.main()
