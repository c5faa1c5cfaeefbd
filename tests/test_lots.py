"""Stage 5: lots of houses."""

import itertools
import math
import random
import unittest

from fetchunseen.errors import TooMany
from fetchunseen.lots import lots as module
from fetchunseen.lots.lots import all_lots, are_within, exchanged_lots, free_houses, greatest_lots, is_lots
from fetchunseen.lots.lots import lone_lots, spread_lots
from tests.support import Errors, FAR, KINDS, LOTS, NUMBERS, OPERATION, number

HOUSES = (number, NUMBERS + [0, 7, 8, 10 ** 59])


def every_lot(houses):
    """All lots of the houses, ascending."""
    return sorted([lot for most in range(houses + 1) for lot in itertools.combinations(range(houses), most)])


def every_lots(houses, most=12):
    """All lots of so many houses, at most so many at once."""
    for many in range(most + 1):
        yield from itertools.combinations(every_lot(houses), many)


def some_lots(generator, houses, many):
    return tuple(sorted(generator.sample(every_lot(houses), min(many, 2 ** houses))))


def is_inside(lot, others):
    return any(set(lot) <= set(other) for other in others)


def own_greatest(lots):
    return tuple([lot for lot in lots if not any(set(lot) < set(other) for other in lots)])


def own_free(houses, lots):
    return tuple([house for house in range(houses) if not any(house in lot for lot in lots)])


def no_lots(houses):
    """What is no lots of so many houses."""
    return KINDS + FAR + [
        3, (0,), (0, 1), [], [(0,)], ([0],), ((0,), [1]), ((0,), (0,)), ((1,), (0,)), ((0,), ()), ((1, 0),),
        ((0, 0),), ((houses,),), ((0, houses),), ((-1,),), ((True,),), ((False,),), ((0, True),), ((0, None),),
        (None,), ("0",), ((0,), 1), ({},), {(0,): 1}, (("0",),), ((10 ** 60,),), ((10 ** 99,),),
        tuple(every_lot(6)[:13]), ((0,), (1, 0)), (((0,),),), ("",),
    ]


def thirteen():
    return tuple(every_lot(5)[:13])


class TestGreatest(Errors):
    """[5.1]"""

    def test_constants(self):
        self.assertEqual((module.MOST_HOUSES, module.MOST_LOTS), (6, 12))

    def test_up_to_three_houses(self):
        for houses in (1, 2, 3):
            for lots in every_lots(houses):
                self.check_lots(houses, lots)

    def test_more_houses(self):
        generator = random.Random(50)
        for houses in (4, 5, 6):
            for _ in range(300):
                self.check_lots(houses, some_lots(generator, houses, generator.randrange(13)))

    def check_lots(self, houses, lots):
        self.assertIs(is_lots(houses, lots), True)
        made = greatest_lots(houses, lots)
        self.assertEqual(made, own_greatest(lots))
        self.assertIs(is_lots(houses, made), True)
        self.assertTrue(all(is_inside(lot, made) for lot in lots))
        self.assertFalse(any(set(one) < set(other) for one in made for other in made))
        self.assertEqual(free_houses(houses, lots), own_free(houses, lots))
        self.assertEqual(free_houses(houses, made), free_houses(houses, lots))
        self.assertIs(are_within(houses, lots, made), True)

    def test_edges(self):
        whole = tuple(range(6))
        self.assertEqual([greatest_lots(6, ()), greatest_lots(1, ((),)), free_houses(6, ((),))], [(), ((),), whole])
        self.assertEqual([free_houses(1, ((0,),)), greatest_lots(6, (whole,)), free_houses(6, (whole,))], [(), (whole,), ()])
        twelve = tuple(every_lot(4)[:12])
        self.assertIs(is_lots(4, twelve), True)
        self.assertEqual(greatest_lots(4, twelve), own_greatest(twelve))

    def test_is_lots(self):
        for houses in range(1, 7):
            self.check_accepts(is_lots, (houses,), no_lots(houses) + [thirteen()])
        self.assertIs(is_lots(6, ((0, 5),)), True)
        self.assertIs(is_lots(5, ((0, 5),)), False)

    def test_errors(self):
        good = (3, ((0, 1), (2,)))
        for function in (greatest_lots, free_houses):
            self.check_arguments(function, good, [HOUSES, (LOTS, no_lots(3) + [thirteen()])])
        self.check_arguments(is_lots, good, [HOUSES, None])


class TestWithin(Errors):
    """[5.2] as far as lots go, and what is within what."""

    def test_up_to_three_houses(self):
        for houses in (1, 2):
            some = list(every_lots(houses))
            for lots, others in itertools.product(some, repeat=2):
                wanted = all(is_inside(lot, others) for lot in lots)
                self.assertIs(are_within(houses, lots, others), wanted)
        for lots, others in itertools.product(list(every_lots(3, 2)), repeat=2):
            self.assertIs(are_within(3, lots, others), all(is_inside(lot, others) for lot in lots))

    def test_more_houses(self):
        generator = random.Random(51)
        for _ in range(800):
            lots, others = some_lots(generator, 6, generator.randrange(4)), some_lots(generator, 6, generator.randrange(13))
            self.assertIs(are_within(6, lots, others), all(is_inside(lot, others) for lot in lots))
            self.assertIs(are_within(6, lots, lots), True)

    def test_edges(self):
        self.assertIs(are_within(3, ((),), ()), False)
        self.assertIs(are_within(3, ((),), ((),)), True)
        self.assertIs(are_within(3, ((),), ((2,),)), True)
        self.assertIs(are_within(3, (), ((1,),)), True)

    def test_errors(self):
        wrong = (LOTS, no_lots(3) + [thirteen()])
        self.check_arguments(are_within, (3, ((0, 1),), ((0,),)), [HOUSES, wrong, wrong])


class TestAll(Errors):
    """[5.3]"""

    def test_all(self):
        for houses in range(1, 7):
            self.assertEqual(lone_lots(houses), tuple([(house,) for house in range(houses)]))
            self.assertEqual(free_houses(houses, lone_lots(houses)), ())
            for most in range(houses + 1):
                many = math.comb(houses, most)
                if many > 12:
                    self.check_error(all_lots, (houses, most), (TooMany, "limit", 12))
                    continue
                made = all_lots(houses, most)
                self.assertEqual(made, tuple([lot for lot in every_lot(houses) if len(lot) == most]))
                self.assertEqual(len(made), many)
                self.assertEqual(free_houses(houses, made), () if most else tuple(range(houses)))
                self.assertEqual(greatest_lots(houses, made), made)

    def test_errors(self):
        self.check_arguments(lone_lots, (3,), [HOUSES])
        self.check_arguments(all_lots, (3, 2), [HOUSES, (number, NUMBERS + [4, 6, 7, 10 ** 59])])
        self.check_error(all_lots, (7, 3), number(7))
        self.check_error(all_lots, (6, 7), number(7))


class TestSpread(Errors):
    """[5.4]"""

    def own_spread(self, lots, parts):
        starts = [sum(parts[:house]) for house in range(len(parts))]
        made = [[starts[house] + more for house in lot for more in range(parts[house])] for lot in lots]
        return tuple(sorted({tuple(sorted(lot)) for lot in made}))

    def all_parts(self, houses):
        return [parts for parts in itertools.product(range(7), repeat=houses) if 1 <= sum(parts) <= 6]

    def check_spread(self, houses, lots, parts):
        made = spread_lots(houses, lots, parts)
        self.assertEqual(made, self.own_spread(lots, parts))
        self.assertIs(is_lots(sum(parts), made), True)
        if 0 not in parts:
            self.assertEqual(len(made), len(lots))
            free = [house for house in range(houses) for _ in range(parts[house]) if house in own_free(houses, lots)]
            self.assertEqual(len(free_houses(sum(parts), made)), len(free))
        for one, other in itertools.product(lots, repeat=2):
            if set(one) <= set(other):
                pair = [spread_lots(houses, (lot,), parts)[0] for lot in (one, other)]
                self.assertLessEqual(set(pair[0]), set(pair[1]))
                self.assertEqual(len(pair[0]), sum([parts[house] for house in one]))

    def test_small(self):
        for houses in (1, 2):
            for lots in every_lots(houses):
                for parts in self.all_parts(houses):
                    self.check_spread(houses, lots, parts)
        for lots in every_lots(3, 2):
            for parts in self.all_parts(3)[::3]:
                self.check_spread(3, lots, parts)

    def test_greater(self):
        generator = random.Random(52)
        for houses in (4, 5, 6):
            parts = self.all_parts(houses)
            for _ in range(100):
                self.check_spread(houses, some_lots(generator, houses, 12), generator.choice(parts))

    def test_edges(self):
        self.assertEqual(spread_lots(1, ((0,),), (6,)), ((0, 1, 2, 3, 4, 5),))
        self.assertEqual(spread_lots(6, (), (1,) * 6), ())
        self.assertEqual(spread_lots(2, ((), (0,)), (0, 6)), ((),))
        twelve = tuple(every_lot(4)[:12])
        self.assertEqual(spread_lots(4, twelve, (1, 1, 1, 1)), twelve)

    def test_errors(self):
        parts = KINDS + FAR + [
            3, (1, 1), (1, 1, 1, 1), (0, 0, 0), (7, 0, 0), (6, 1, 0), (2, 2, 3), (1, 1, True), (False, 1, 1),
            (1, 1, None), (1, -1, 1), [1, 1, 1], ((1,), 1, 1), (1, 1, "1"), (1, 1, 10 ** 60), (), (1, 1, 10 ** 99),
        ]
        wrong = [HOUSES, (LOTS, no_lots(3) + [thirteen()]), (OPERATION, parts)]
        self.check_arguments(spread_lots, (3, ((0, 1), (1,)), (1, 0, 3)), wrong)


class TestExchanged(Errors):
    """[5.5]"""

    def test_small(self):
        for houses in (1, 2, 3):
            for lots in every_lots(houses, 12 if houses < 3 else 4):
                for order in itertools.permutations(range(houses)):
                    self.check_exchanged(houses, lots, order)

    def test_greater(self):
        generator = random.Random(53)
        for houses in (4, 5, 6):
            for _ in range(100):
                order = generator.sample(range(houses), houses)
                self.check_exchanged(houses, some_lots(generator, houses, 12), tuple(order))

    def check_exchanged(self, houses, lots, order):
        made = exchanged_lots(houses, lots, order)
        self.assertEqual(made, tuple(sorted([tuple(sorted([order[house] for house in lot])) for lot in lots])))
        self.assertIs(is_lots(houses, made), True)
        self.assertEqual(len(made), len(lots))
        self.assertEqual(greatest_lots(houses, made), exchanged_lots(houses, greatest_lots(houses, lots), order))
        free = [order[house] for house in free_houses(houses, lots)]
        self.assertEqual(free_houses(houses, made), tuple(sorted(free)))
        back = tuple([order.index(house) for house in range(houses)])
        self.assertEqual(exchanged_lots(houses, made, back), lots)
        twice = tuple([order[to] for to in order])
        self.assertEqual(exchanged_lots(houses, made, order), exchanged_lots(houses, lots, twice))

    def test_errors(self):
        orders = KINDS + FAR + [
            3, (0, 1), (0, 1, 2, 3), (0, 1, 1), (1, 2, 3), (0, 0, 0), (-1, 0, 1), (0, True, 2), (False, 1, 2),
            (0, 1, None), [0, 1, 2], ((0,), 1, 2), ("0", 1, 2), (0, 1, 10 ** 60), (), "012", {0: 0, 1: 1, 2: 2},
        ]
        wrong = [HOUSES, (LOTS, no_lots(3) + [thirteen()]), (OPERATION, orders)]
        self.check_arguments(exchanged_lots, (3, ((0, 1), (1,)), (2, 0, 1)), wrong)


class TestCalls(Errors):
    def test_equal_calls(self):
        lots = ((), (0, 1), (0, 1, 3), (2,))
        self.check_twice(is_lots, [(5, lots), (3, lots)])
        for function in (greatest_lots, free_houses):
            self.check_twice(function, [(5, lots), (6, ())])
        self.check_twice(lone_lots, [(6,)])
        self.check_twice(all_lots, [(5, 3)])
        self.check_twice(are_within, [(5, lots, lots[1:])])
        self.check_twice(exchanged_lots, [(5, lots, (4, 3, 2, 1, 0))])
        self.check_twice(spread_lots, [(5, lots, (1, 0, 2, 1, 1))])

    def test_not_true(self):
        self.assertEqual(greatest_lots(2, ((), (0,))), greatest_lots(2, ((0,),)))
        self.assertEqual([free_houses(2, ((0,), (1,))), free_houses(2, greatest_lots(2, ((0,),)))], [(), (1,)])
        self.assertEqual(len(spread_lots(2, ((0,), (0, 1)), (2, 0))), 1)


if __name__ == "__main__":
    unittest.main()
