"""Stage 2: what the functions of rows refuse, and what the judge does not take."""

import random
import unittest

from fetchunseen.base.rows import basis, dot, inverse_table, is_parts_or_look, kernel, multiple, parts_or_look
from fetchunseen.base.rows import plus, product, rank, relations
from fetchunseen.errors import InvalidOperation, InvalidRow, InvalidRows, Refused
from tests.support import Errors, FAR, KINDS, NUMBERS, PRIMES, ROW, ROWS
from tests.support import letters_beyond, no_rows, no_rows_one, number, objects, some_rows

AS_ROW = (ROW, no_rows_one(5))
AS_ROWS = (ROWS, no_rows(5))
AS_PRIME = (number, PRIMES)
ONE, TWO = (1, 2, 3), ((1, 2, 3), (2, 4, 1))
NO_OPERATION = (InvalidOperation, None, None)
# As they are refused for any prime.
LONG = ((0,) * 101, (1,) * 100 + (10 ** 60,))


class TestRefused(Errors):
    def test_two_rows(self):
        for function in (dot, plus):
            self.check_arguments(function, (5, ONE, (0, 0, 4)), [AS_PRIME, AS_ROW, AS_ROW])
            for one, other in (((1,), (1, 2)), ((0,) * 100, (0,) * 99), ((1, 2), (1,))):
                self.check_error(function, (5, one, other), NO_OPERATION)
                self.check_error(function, (6, one, other), number(6))
            self.check_error(function, (5, (1, 5), (1,)), ROW(None))
            self.check_error(function, (5, (1,), (1, 5)), ROW(None))
            self.check_error(function, (2, (0, 1), (0, 2)), ROW(None))

    def test_one_row(self):
        wrong = [AS_PRIME, AS_ROW, (number, letters_beyond(5))]
        self.check_arguments(multiple, (5, ONE, 4), wrong)
        for row in LONG:
            self.check_error(multiple, (9973, row, 1), ROW(None))

    def test_rows(self):
        for function in (rank, basis, relations):
            self.check_arguments(function, (5, TWO), [AS_PRIME, AS_ROWS])

    def test_kernel(self):
        width = (number, NUMBERS + [0, 101, 10 ** 59])
        self.check_arguments(kernel, (5, 3, TWO), [AS_PRIME, width, AS_ROWS])
        for wide in (1, 2, 4, 100):
            self.check_error(kernel, (5, wide, TWO), NO_OPERATION)
        self.check_error(kernel, (5, 0, ((1, 2), (1,))), number(0))
        self.check_error(kernel, (5, 2, ((1, 2), (1,))), ROWS(None))
        self.check_error(kernel, (8, 4, TWO), number(8))

    def test_parts_or_look(self):
        self.check_arguments(parts_or_look, (5, TWO, (0, 0, 1)), [AS_PRIME, AS_ROWS, AS_ROW])
        for goal in ((1,), (1, 2), (0,) * 4, (0,) * 100):
            self.check_error(parts_or_look, (5, TWO, goal), NO_OPERATION)
            self.check_error(parts_or_look, (1, TWO, goal), number(1))
            self.check_error(is_parts_or_look, (5, TWO, goal, ("parts", (0, 0))), NO_OPERATION)
        good = (5, TWO, (0, 0, 1), None)
        self.check_arguments(is_parts_or_look, good, [AS_PRIME, AS_ROWS, AS_ROW, None])
        self.assertEqual(parts_or_look(5, (), (0,) * 100), ("parts", ()))

    def test_product(self):
        self.check_arguments(product, (5, TWO, TWO + TWO[:1]), [AS_PRIME, AS_ROWS, AS_ROWS])
        for other in ((), TWO, TWO * 2):
            self.check_error(product, (5, TWO, other), NO_OPERATION)
        self.check_error(product, (5, (), [1]), ROWS(None))
        self.check_error(product, (5, ((9,),), ()), ROWS(None))
        self.assertEqual(product(5, (), TWO * 100), ())

    def test_inverse_table(self):
        tables = no_rows(5) + [(), TWO, ((1, 2),), ((1,), (2,)), ((0, 1),) * 3, ((0,) * 100,) * 99]
        self.check_arguments(inverse_table, (5, ((1, 2), (0, 1))), [AS_PRIME, (ROWS, tables)])
        flat = (Refused, "reason", ("flat",))
        for table in (((0,),), ((1, 2), (2, 4)), ((0, 1), (0, 1)), ((0,) * 100,) * 100, ((1,) * 3,) * 3):
            self.check_error(inverse_table, (5, table), flat)
            self.check_error(inverse_table, (0, table), number(0))

    def test_errors_are_exact(self):
        for function, arguments, kind in ((rank, (5, None), InvalidRows), (dot, (5, 1, (1,)), InvalidRow)):
            with self.assertRaises(kind) as caught:
                function(*arguments)
            self.assertIs(type(caught.exception), kind)


class TestJudged(Errors):
    def test_parts(self):
        values = KINDS + FAR + [
            (), ("parts",), ("parts", (1, 1), ()), ["parts", (1, 1)], ("parts", [1, 1]), ("look", (1, 1)),
            ("parts", (True, 1)), ("parts", (1, True)), ("parts", (6, 1)), ("parts", (1, -4)), ("parts", (1,)),
            ("parts", (1, 1, 0)), ("parts", ((1, 1),)), ("parts", "11"), ("parts", None), ("part", (1, 1)),
            ("", (1, 1)), (None, (1, 1)), (("parts",), (1, 1)), ("parts", {0: 1, 1: 1}), ("parts", 11),
            ("parts", (1, None)), ("parts", (1, 10 ** 99)), ("parts", (0, 0)), *[("parts", one) for one in objects()],
            *[(one, (1, 1)) for one in objects()], ("Parts", (1, 1)), (["parts"], (1, 1)), ({}, (1, 1)),
            ("look", (0, 0, 0)), ("look", (1, 0, 3)), ("look", ("0", 0, 1)),
        ]
        self.check_accepts(is_parts_or_look, (5, TWO, (3, 1, 4)), values)
        self.assertIs(is_parts_or_look(5, TWO, (3, 1, 4), ("parts", (1, 1))), True)
        self.assertIs(is_parts_or_look(5, TWO, (3, 1, 4), ("parts", (3, 0))), True)

    def test_looks(self):
        values = KINDS + FAR + [
            (), ("look",), ("look", (1, 0, 3), 0), ["look", (1, 0, 3)], ("look", [1, 0, 3]), ("parts", (1, 0, 3)),
            ("look", (True, 0, 3)), ("look", (1, False, 3)), ("look", (1, 0, -2)), ("look", (1, 5, 3)),
            ("look", (1, 0)), ("look", (1, 0, 3, 0)), ("look", (0, 0, 0)), ("look", ()), ("look", (0, 0, 1)),
            ("look", (3, 1, 0)), ("parts", (1, 1)), ("parts", ()), ("look", "103"), ("look", None), ("Look", (1, 0, 3)),
            ("look", {1: 1}), ("look", ((1, 0, 3),)), (None, (1, 0, 3)), ("look", (1, 0, 10 ** 60)),
        ]
        self.check_accepts(is_parts_or_look, (5, TWO, (0, 0, 1)), values)
        for look in ((1, 0, 3), (2, 0, 1), (0, 1, 1), (1, 1, 4)):
            self.assertIs(is_parts_or_look(5, TWO, (0, 0, 1), ("look", look)), True)

    def test_great(self):
        generator = random.Random(27)
        some = some_rows(generator, 9973, 200, 100)
        told = parts_or_look(9973, some, some[7])
        self.assertEqual(len(told[1]), 200)
        own = tuple([int(at == 7) for at in range(200)])
        self.assertIs(is_parts_or_look(9973, some, some[7], ("parts", own)), True)
        self.assertIs(is_parts_or_look(9973, some, some[7], ("parts", own[:-1] + (1,))), False)


class TestCalls(Errors):
    def test_equal_calls(self):
        generator = random.Random(28)
        some = some_rows(generator, 3, 9, 12)
        for function in (rank, basis, relations):
            self.check_twice(function, [(3, some), (5, TWO), (2, ())])
        self.check_twice(kernel, [(3, 12, some), (2, 5, ())])
        self.check_twice(parts_or_look, [(3, some, row) for row in some_rows(generator, 3, 20, 12)])
        self.check_twice(is_parts_or_look, [(5, TWO, (3, 1, 4), ("parts", (1, 1)))])
        self.check_twice(product, [(3, some, some + some[:3])])
        self.check_twice(inverse_table, [(5, ((1, 2), (0, 1)))])
        for function in (dot, plus):
            self.check_twice(function, [(5, ONE, ONE)])
        self.check_twice(multiple, [(5, ONE, 4)])


if __name__ == "__main__":
    unittest.main()
