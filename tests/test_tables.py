"""Stage 11: tables that lead rows into rows."""

import itertools
import random
import unittest
from collections import Counter

from fetchunseen.base.rows import basis, product
from fetchunseen.scheme.tables import alike_answer, is_alike_answer, leading_count, number_of, table_at, table_count
from tests.shapes import rank_by_hand
from tests.support import Errors, FAR, KINDS, NUMBERS, OPERATION, PRIMES, ROWS, all_rows, is_path, made_of, mixed_rows, no_rows
from tests.support import number, objects, paths, put, refused, shown, some_rows

AS_PRIME, AS_WIDTH = (number, PRIMES), (number, NUMBERS + [0, 101, 10 ** 59])
BENT = [
    None, True, False, 0, 1, 2, 4, 5, -1, 10 ** 60, 10 ** 99, (), (0,), (1,), (1, 0), (1, True), (0, 0), ((1, 0), (0, 1)), ((1, 0),),
    [], [1, 0], [(1, 0), (0, 1)], "table", "row", "", {}, {0: 1}, (1, 0, 0), (1, 1, 4), ((0, 0),) * 2, "x" * 3000, *objects(),
]


def all_tables(prime, width):
    """All invertible tables, by trying."""
    return [table for table in itertools.product(all_rows(prime, width), repeat=width) if rank_by_hand(prime, table) == width]


def own_led(prime, width, rows, table):
    return tuple([made_of(prime, width, table, row) for row in rows])


def row_order(prime, width, ahead):
    """All rows that are apart from those ahead, as the document orders them."""
    made = basis(prime, ahead)
    leads = [[at for at, letter in enumerate(row) if letter][0] for row in made]
    others = [place for place in range(width) if place not in leads]
    keyed = []
    for row in all_rows(prime, width):
        rest = tuple([(letter - by) % prime for letter, by in zip(row, made_of(prime, width, made, [row[at] for at in leads]))])
        if any(rest):
            keyed.append(([rest[at] for at in others], [row[at] for at in leads], row))
    return [row for _, _, row in sorted(keyed)]


def own_number(prime, table):
    made = 0
    for at, row in enumerate(table):
        found = row_order(prime, len(table), table[:at])
        assert len(found) == prime ** len(table) - prime ** at
        made = made * len(found) + found.index(row)
    return made


def own_count(prime, width, first=0):
    made = 1
    for at in range(first, width):
        made *= prime ** width - prime ** at
    return made


def is_relation(prime, rows, letters):
    return not any(made_of(prime, len(rows[0]) if rows else 0, rows, letters))


def is_own_letters(prime, value, many):
    return type(value) is tuple and len(value) == many and all([type(one) is int and 0 <= one < prime for one in value])


def own_alike_answer(prime, width, one, other, value):
    if type(value) is not tuple or len(value) != 2 or type(value[0]) is not str:
        return False
    if value[0] == "row":
        if not is_own_letters(prime, value[1], len(one)):
            return False
        return is_relation(prime, one, value[1]) != is_relation(prime, other, value[1])
    if value[0] != "table" or type(value[1]) is not tuple or len(value[1]) != width:
        return False
    if not all([is_own_letters(prime, row, width) for row in value[1]]) or rank_by_hand(prime, value[1]) < width:
        return False
    return own_led(prime, width, one, value[1]) == other


class TestNumbers(Errors):
    """[11.1], [11.2]"""

    def test_counts(self):
        for prime, width in ((2, 1), (2, 2), (2, 3), (3, 1), (3, 2), (5, 1), (5, 2), (7, 1), (11, 1)):
            self.assertEqual(table_count(prime, width), len(all_tables(prime, width)))
        for prime in (2, 3, 101, 9973):
            for width in (1, 2, 10, 99, 100):
                self.assertEqual(table_count(prime, width), own_count(prime, width))
        self.assertEqual([table_count(2, 1), table_count(9973, 1), table_count(2, 3)], [1, 9972, 168])

    def test_each_number_once(self):
        for prime, width in ((2, 1), (2, 2), (2, 3), (3, 1), (3, 2), (5, 1), (5, 2), (7, 1), (11, 1)):
            tables = all_tables(prime, width)
            made = [table_at(prime, width, at) for at in range(len(tables))]
            self.assertEqual(sorted(made), sorted(tables))
            self.assertEqual([number_of(prime, table) for table in made], list(range(len(tables))))
            for table in tables[::3]:
                self.assertEqual(number_of(prime, table), own_number(prime, table))
                self.assertEqual(table_at(prime, width, own_number(prime, table)), table)

    def test_more_tables(self):
        for prime, width in ((2, 4), (3, 3), (7, 2)):
            many = own_count(prime, width)
            made = [table_at(prime, width, at) for at in range(many)]
            self.assertEqual(len(set(made)), many)
            self.assertEqual({rank_by_hand(prime, table) for table in made[::7]}, {width})
            for at in range(0, many, 5):
                self.assertEqual(number_of(prime, made[at]), at)
            for at in range(0, many, many // 40):
                self.assertEqual(own_number(prime, made[at]), at)

    def test_great(self):
        generator = random.Random(110)
        for prime, width in ((9973, 100), (2, 100), (9973, 1), (9973, 2), (3, 50), (101, 20)):
            many = own_count(prime, width)
            first = tuple([tuple([int(at + place == width - 1) for place in range(width)]) for at in range(width)])
            self.assertEqual(table_at(prime, width, 0), first)
            self.assertEqual(number_of(prime, first), 0)
            for at in [1, many - 1, many // 2] + [generator.randrange(many) for _ in range(3)]:
                table = self.check_within(20, table_at, prime, width, at % many)
                self.assertEqual({len(row) for row in table}, {width})
                self.assertEqual(self.check_within(20, number_of, prime, table), at % many)
            last = table_at(prime, width, many - 1)
            self.assertEqual(last[0], (prime - 1,) * width)
            self.check_error(table_at, (prime, width, many), number(many))
            self.check_error(table_at, (prime, width, many * prime + 1), number(many * prime + 1))

    def test_flat(self):
        for prime, width in ((2, 1), (2, 2), (2, 3), (3, 2), (5, 1)):
            for table in itertools.product(all_rows(prime, width), repeat=width):
                if rank_by_hand(prime, table) < width:
                    self.check_error(number_of, (prime, table), refused("flat"))
        self.check_error(number_of, (2, ((0,) * 100,) * 100), refused("flat"))
        some = some_rows(random.Random(111), 9973, 99, 100)
        self.check_error(number_of, (9973, some + some[50:51]), refused("flat"))

    def test_errors(self):
        self.check_arguments(table_count, (2, 2), [AS_PRIME, AS_WIDTH])
        self.check_arguments(table_at, (2, 2, 5), [AS_PRIME, AS_WIDTH, (number, KINDS + FAR + [(), (3,), 6, 7, 10 ** 59])])
        tables = no_rows(5) + [(), ((1, 2),), ((1,), (2,)), ((0, 1),) * 3, ((0,) * 100,) * 99, ((1, 0), (0, 1), (0, 0))]
        self.check_arguments(number_of, (5, ((1, 2), (0, 1))), [AS_PRIME, (ROWS, tables)])
        for at in (10 ** 60, 10 ** 100 - 1, 10 ** 99):
            self.assertEqual(number_of(9973, table_at(9973, 20, at)), at)


class TestAlike(Errors):
    """[11.3], [11.4]: by all tables."""

    def check_pair(self, prime, width, one, other, many):
        """`many` tables lead the one into the other."""
        self.assertEqual(leading_count(prime, width, one, other), many)
        answer = alike_answer(prime, width, one, other)
        self.assertEqual(answer[0], "table" if many else "row")
        self.assertIs(own_alike_answer(prime, width, one, other, answer), True)
        self.assertIs(is_alike_answer(prime, width, one, other, answer), True)
        return answer

    def test_small(self):
        for prime, width, most in ((2, 1, 3), (2, 2, 3), (3, 1, 2), (3, 2, 1), (2, 3, 2), (5, 1, 2), (5, 2, 1)):
            tables = all_tables(prime, width)
            for rows in range(most + 1):
                every = list(itertools.product(all_rows(prime, width), repeat=rows))
                for one in every:
                    counted = Counter([own_led(prime, width, one, table) for table in tables])
                    self.assertEqual(len(set(counted.values())), 1)
                    for other in every:
                        self.check_pair(prime, width, one, other, counted[other])

    def test_more_rows(self):
        generator = random.Random(112)
        for prime, width in ((3, 2), (2, 3), (5, 2)):
            tables = all_tables(prime, width)
            for _ in range(40):
                seeds = some_rows(generator, prime, generator.randrange(1, 4), width)
                one = mixed_rows(generator, prime, seeds, generator.randrange(6))
                counted = Counter([own_led(prime, width, one, table) for table in tables])
                for other in list(counted)[:10]:
                    self.check_pair(prime, width, one, other, counted[other])
                other = some_rows(generator, prime, len(one), width)
                self.check_pair(prime, width, one, other, counted[other])

    def test_judges_all_values(self):
        for prime, width, many in ((2, 2, 2), (3, 1, 2), (2, 1, 3), (2, 2, 0)):
            every = list(itertools.product(all_rows(prime, width), repeat=many))
            values = [("table", table) for table in itertools.product(all_rows(prime, width), repeat=width)]
            values += [("row", letters) for length in (many, many + 1) for letters in all_rows(prime, length)]
            for one, other in itertools.product(every, repeat=2):
                for value in values:
                    self.assertIs(is_alike_answer(prime, width, one, other, value), own_alike_answer(prime, width, one, other, value))

    def test_bent_values(self):
        for one, other in ((((1, 0), (0, 1), (1, 1)), ((1, 1), (1, 2), (2, 4))), (((1, 0),), ((3, 4),)), ((), ()),
                           (((1, 0), (0, 1), (1, 1)), ((1, 1), (1, 2), (2, 3)))):
            before = (5, 2, one, other)
            self.check_bent(is_alike_answer, before, own_alike_answer, alike_answer(*before), BENT)

    def test_values_of_every_kind(self):
        good = ("table", ((1, 1), (1, 2)))
        before = (5, 2, ((1, 0), (0, 1)), ((1, 1), (1, 2)))
        self.assertIs(is_alike_answer(*before, good), True)
        self.check_accepts(is_alike_answer, before, KINDS + FAR + [
            (), ("table",), good + ((),), list(good), good[1], good[::-1], ("row", good[1]), ("table", ((1, 1), [1, 2])),
            ("table", ((True, 1), (1, 2))), ("table", ((1, 1), (1, 2), (0, 0))), ("table", ((1, 1, 0), (1, 2, 0))), ("table", ()),
            ("table", ((1, 1),)), ("Table", good[1]), ("row", (0, 0)), ("row", ()), ("table", ((6, 1), (1, 2))), ("table", None),
        ])
        before = (5, 2, ((1, 0), (0, 1), (1, 1)), ((1, 1), (1, 2), (2, 4)))
        for letters in ((1, 1, 4), (2, 2, 3), (0, 2, 4), (0, 3, 1)):
            self.assertIs(is_alike_answer(*before, ("row", letters)), True)
        self.check_accepts(is_alike_answer, before, KINDS + FAR + [
            ("row", (1, True, 4)), ("row", (0, 0, 0)), ("row", [1, 1, 4]), ("row", (1, 1)), ("row", (1, 1, 4, 0)), ("row", (1, 1, -1)),
            ("row", (1, 1, 9)), ("rows", (1, 1, 4)), ("row", (1, 0, 0)), ("table", ((1, 1), (1, 2))), ("row", 3), ("row",),
        ])

    def test_great(self):
        generator = random.Random(113)
        for prime, width, many in ((9973, 100, 200), (9973, 100, 100), (2, 100, 200), (9973, 100, 60), (3, 7, 200)):
            seeds = some_rows(generator, prime, min(60, width, many), width)
            one = seeds + mixed_rows(generator, prime, seeds[:5], many - len(seeds))
            table = table_at(prime, width, generator.randrange(table_count(prime, width)))
            other = product(prime, one, table)
            answer = self.check_within(20, alike_answer, prime, width, one, other)
            self.assertEqual(answer[0], "table")
            self.assertEqual(product(prime, one, answer[1]), other)
            self.assertIs(self.check_within(20, is_alike_answer, prime, width, one, other, answer), True)
            self.assertIs(is_alike_answer(prime, width, one, other, ("table", table)), True)
            self.assertEqual(leading_count(prime, width, one, other), own_count(prime, width, rank_by_hand(prime, one)))
            bent = other[:-1] + (other[0],)
            if many > len(seeds):
                answer = self.check_within(20, alike_answer, prime, width, one, bent)
                self.assertIs(own_alike_answer(prime, width, one, bent, answer), True)
                self.assertIs(self.check_within(20, is_alike_answer, prime, width, one, bent, answer), True)
                self.assertEqual((answer[0], leading_count(prime, width, one, bent)), ("row", 0))
        zeros, ones = ((0,) * 100,) * 200, ((1,) * 100,) * 200
        self.assertEqual([alike_answer(2, 100, zeros, zeros)[0], alike_answer(2, 100, zeros, ones)[0]], ["table", "row"])
        self.assertEqual(leading_count(9973, 100, (), ()), table_count(9973, 100))

    def test_relations_are_one_of_both(self):
        """A table keeps each relation, and so does its inverse."""
        generator = random.Random(114)
        for _ in range(60):
            one = some_rows(generator, 3, 4, 2)
            other = own_led(3, 2, one, table_at(3, 2, generator.randrange(48)))
            for letters in all_rows(3, 4):
                self.assertEqual(is_relation(3, one, letters), is_relation(3, other, letters))
                self.assertIs(is_alike_answer(3, 2, one, other, ("row", letters)), False)

    def test_errors(self):
        one, other = ((1, 0), (0, 1), (1, 1)), ((1, 1), (1, 2), (2, 3))
        rows = (ROWS, no_rows(5) + [((1,),), ((1, 0, 0),), ((1,),) * 3, ((0,) * 100,)])
        for function, more in ((alike_answer, ()), (leading_count, ()), (is_alike_answer, (None,))):
            wrong = [AS_PRIME, AS_WIDTH, rows, rows] + [None] * len(more)
            self.check_arguments(function, (5, 2, one, other) + more, wrong)
            for short in ((), other[:2], other + one):
                self.check_error(function, (5, 2, one, short) + more, OPERATION(None))
                self.check_error(function, (5, 2, short, other) + more, OPERATION(None))
                self.check_error(function, (5, 3, short, one) + more, ROWS(None))
                self.check_error(function, (4, 2, one, short) + more, number(4))

    def test_equal_calls(self):
        one, other = ((1, 0), (0, 1), (1, 1)), ((1, 1), (1, 2), (2, 3))
        for function in (alike_answer, leading_count):
            self.check_twice(function, [(5, 2, one, other), (5, 2, one, one[::-1]), (5, 2, (), ())])
        self.check_twice(is_alike_answer, [(5, 2, one, other, ("table", ((1, 1), (1, 2))))])
        self.check_twice(table_count, [(5, 2)])
        self.check_twice(table_at, [(5, 2, 77)])
        self.check_twice(number_of, [(5, ((0, 2), (3, 1)))])

    def test_not_true(self):
        """[11.5]"""
        self.assertEqual(leading_count(5, 2, ((1, 0), (0, 0)), ((0, 0), (1, 0))), 0)
        self.assertNotEqual(product(2, ((1, 0),), table_at(2, 2, 0)), ((1, 0),))
        self.assertEqual(leading_count(5, 2, ((1, 0),), ((3, 4),)), 20)

    def test_own_tools(self):
        self.assertTrue(is_path(((1,),), (0, 0)))
        self.assertEqual(shown(put(((1,),), (0, 0), 2)), shown(((2,),)))
        self.assertEqual(paths((1, (2,))), [(0,), (1,), (1, 0)])


if __name__ == "__main__":
    unittest.main()
