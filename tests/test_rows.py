"""Stage 2: rows, by the words of its points, over small cases and some great ones."""

import itertools
import random
import unittest

from fetchunseen.base import rows as module
from fetchunseen.base.rows import basis, dot, inverse_table, is_parts_or_look, kernel, multiple, parts_or_look
from fetchunseen.base.rows import plus, product, rank, relations
from fetchunseen.errors import Refused
from tests.support import all_rows, made_of, mixed_rows, raised, some_rows, span_of, told

# All tuples of so many rows of a width: (prime, width, most rows).
SMALL = ((2, 1, 4), (2, 2, 4), (2, 3, 3), (3, 1, 3), (3, 2, 3), (5, 1, 2), (5, 2, 2))


def small_rows():
    for prime, width, most in SMALL:
        for many in range(most + 1):
            for some in itertools.product(all_rows(prime, width), repeat=many):
                yield prime, width, some


def is_reduced(prime, some):
    leads = []
    for row in some:
        places = [at for at, letter in enumerate(row) if letter]
        if not places or row[places[0]] != 1 or any(not 0 <= letter < prime for letter in row):
            return False
        leads.append(places[0])
    if leads != sorted(set(leads)):
        return False
    return all(row[lead] == 0 for at, row in enumerate(some) for to, lead in enumerate(leads) if at != to)


def reduced_away(prime, some, row):
    """What is left of a row after taking off the reduced rows."""
    for lead in some:
        at = [bool(letter) for letter in lead].index(True)
        row = tuple([(one - row[at] * by) % prime for one, by in zip(row, lead)])
    return row


def one_table(width):
    return tuple([tuple([int(at == to) for to in range(width)]) for at in range(width)])


def great_rows():
    """Rows at the greatest bounds, of full rank and of less."""
    generator = random.Random(20)
    for prime in (9973, 2):
        yield prime, 100, some_rows(generator, prime, 200, 100)
        yield prime, 100, mixed_rows(generator, prime, some_rows(generator, prime, 7, 100), 200)
        yield prime, 100, some_rows(generator, prime, 60, 100)
        yield prime, 1, some_rows(generator, prime, 200, 1)
        yield prime, 100, ((0,) * 100,) * 200
        yield prime, 100, some_rows(generator, prime, 1, 100)


class TestPlain(unittest.TestCase):
    def test_constants(self):
        self.assertEqual((module.MOST_ROWS, module.MOST_WIDTH), (200, 100))

    def test_all_pairs(self):
        for prime, width in ((2, 1), (2, 3), (3, 2), (5, 2)):
            for one, other in itertools.product(all_rows(prime, width), repeat=2):
                self.assertEqual(dot(prime, one, other), told(prime, one, other))
                self.assertEqual(plus(prime, one, other), made_of(prime, width, (one, other), (1, 1)))
            for one, letter in itertools.product(all_rows(prime, width), range(prime)):
                self.assertEqual(multiple(prime, one, letter), made_of(prime, width, (one,), (letter,)))

    def test_great(self):
        generator = random.Random(21)
        for prime in (2, 9967, 9973):
            one, other = some_rows(generator, prime, 2, 100)
            self.assertEqual(dot(prime, one, other), told(prime, one, other))
            self.assertEqual(plus(prime, one, other), made_of(prime, 100, (one, other), (1, 1)))
            self.assertEqual(multiple(prime, one, prime - 1), made_of(prime, 100, (one,), (prime - 1,)))
        most = (9972,) * 100
        self.assertEqual([dot(9973, most, most), plus(9973, most, most)[0], multiple(9973, most, 9972)[99]], [100, 9971, 1])


class TestReduced(unittest.TestCase):
    """[2.1]"""

    def test_small(self):
        bases = {}
        for prime, width, some in small_rows():
            made = basis(prime, some)
            self.assertTrue(is_reduced(prime, made), some)
            span = span_of(prime, width, some)
            self.assertEqual(span_of(prime, width, made), span)
            self.assertEqual(rank(prime, some), len(made))
            self.assertEqual(prime ** len(made), len(span))
            bases.setdefault((prime, width, tuple(sorted(span))), set()).add(made)
        self.assertEqual([len(made) for made in bases.values()], [1] * len(bases))
        self.assertEqual(len(set((key[:2], min(made)) for key, made in bases.items() if min(made))),
                         len([made for made in bases.values() if min(made)]))

    def test_rank_is_the_greatest_number_apart(self):
        for prime, width, some in small_rows():
            if prime > 2 or width > 2:
                continue
            most = 0
            for many in range(len(some) + 1):
                for chosen in itertools.combinations(some, many):
                    others = [(row, chosen[:at] + chosen[at + 1:]) for at, row in enumerate(chosen)]
                    if all(row not in span_of(prime, width, rest) for row, rest in others):
                        most = max(most, many)
            self.assertEqual(rank(prime, some), most)

    def test_edges(self):
        self.assertEqual([rank(2, ()), basis(9973, ()), rank(3, ((0, 0),) * 5), basis(3, ((0,),))], [0, (), 0, ()])
        self.assertEqual([basis(7, ((0, 3, 5),)), rank(7, ((0, 3, 5),))], [((0, 1, 4),), 1])
        self.assertEqual([rank(2, ((1,) * 100,) * 200), basis(2, ((1,) * 100,) * 200)], [1, ((1,) * 100,)])

    def test_great(self):
        ranks = []
        for prime, width, some in great_rows():
            made = basis(prime, some)
            self.assertTrue(is_reduced(prime, made))
            for row in some:
                self.assertFalse(any(reduced_away(prime, made, row)))
            # Each row of the basis is made of the rows, as these have its rank, turned about too.
            self.assertEqual(rank(prime, some[::-1]), len(made))
            self.assertEqual(basis(prime, made[::-1]), made)
            ranks.append(rank(prime, some))
        self.assertEqual(ranks, [100, 7, 60, 1, 0, 1] * 2)

    def test_great_spans(self):
        generator = random.Random(22)
        for prime in (3, 9973):
            seeds = some_rows(generator, prime, 9, 40)
            one, other = (mixed_rows(generator, prime, seeds, 30) for _ in range(2))
            self.assertEqual(basis(prime, one), basis(prime, other))
            self.assertNotEqual(basis(prime, one), basis(prime, some_rows(generator, prime, 9, 40)))

    def test_not_true(self):
        self.assertEqual([rank(5, ((1, 2), (2, 4))), dot(5, (1, 2), (1, 2))], [1, 0])
        self.assertNotEqual(len(relations(5, ((1, 2),))), len(relations(5, ((1, 2), (2, 4)))))
        self.assertEqual([rank(5, ((1, 2),)), rank(5, product(5, ((1, 2),), ((3,), (1,))))], [1, 0])


class TestKernels(unittest.TestCase):
    """[2.2]"""

    def test_small(self):
        for prime, width, some in small_rows():
            made = kernel(prime, width, some)
            self.assertTrue(is_reduced(prime, made))
            whole = {at for at in all_rows(prime, width) if all(told(prime, row, at) == 0 for row in some)}
            self.assertEqual(span_of(prime, width, made), whole)
            self.assertEqual(len(made) + rank(prime, some), width)
            self.assertEqual(kernel(prime, width, made), basis(prime, some))

    def test_no_rows(self):
        for prime in (2, 9973):
            for width in (1, 2, 100):
                self.assertEqual(kernel(prime, width, ()), one_table(width))
                self.assertEqual(kernel(prime, width, ((0,) * width,)), one_table(width))
                self.assertEqual(kernel(prime, width, one_table(width)), ())

    def test_great(self):
        for prime, width, some in great_rows():
            made = kernel(prime, width, some)
            self.assertTrue(is_reduced(prime, made))
            self.assertEqual(len(made) + rank(prime, some), width)
            for row in some[::17]:
                self.assertFalse(any(told(prime, row, at) for at in made))
            self.assertEqual(kernel(prime, width, made), basis(prime, some))


class TestRelations(unittest.TestCase):
    """[2.3]"""

    def test_small(self):
        for prime, width, some in small_rows():
            made = relations(prime, some)
            self.assertTrue(is_reduced(prime, made))
            whole = {at for at in all_rows(prime, len(some)) if not any(made_of(prime, width, some, at))}
            self.assertEqual(span_of(prime, len(some), made), whole)
            self.assertEqual(len(made) + rank(prime, some), len(some))

    def test_tables_keep_them(self):
        for prime, width, most in ((2, 2, 3), (3, 2, 2)):
            tables = [one for one in itertools.product(all_rows(prime, width), repeat=width) if rank(prime, one) == width]
            for some in itertools.product(all_rows(prime, width), repeat=most):
                for table in tables:
                    self.assertEqual(relations(prime, product(prime, some, table)), relations(prime, some))

    def test_edges(self):
        self.assertEqual([relations(2, ()), relations(3, ((0,),)), relations(3, ((2, 1),))], [(), ((1,),), ()])
        self.assertEqual(relations(9973, ((0,) * 100,) * 200), one_table(200))

    def test_great(self):
        for prime, width, some in great_rows():
            made = relations(prime, some)
            self.assertTrue(is_reduced(prime, made))
            self.assertEqual(len(made) + rank(prime, some), len(some))
            for letters in made[::23]:
                self.assertEqual(len(letters), len(some))
                self.assertEqual(made_of(prime, width, some, letters), (0,) * width)

    def test_great_table(self):
        generator = random.Random(23)
        some = mixed_rows(generator, 9973, some_rows(generator, 9973, 12, 30), 25)
        table = some_rows(generator, 9973, 30, 30)
        self.assertEqual(rank(9973, table), 30)
        self.assertEqual(relations(9973, product(9973, some, table)), relations(9973, some))


class TestPartsOrLook(unittest.TestCase):
    """[2.4]"""

    def test_all_values(self):
        for prime, width, some in small_rows():
            if len(some) > 2:
                continue
            for goal in all_rows(prime, width):
                parts = [at for at in all_rows(prime, len(some)) if made_of(prime, width, some, at) == goal]
                looks = [at for at in all_rows(prime, width)
                         if told(prime, goal, at) and not any(told(prime, row, at) for row in some)]
                self.assertNotEqual(bool(parts), bool(looks))
                self.assertEqual(bool(parts), goal in span_of(prime, width, some))
                for at in all_rows(prime, len(some)):
                    self.assertIs(is_parts_or_look(prime, some, goal, ("parts", at)), at in parts)
                for at in all_rows(prime, width):
                    self.assertIs(is_parts_or_look(prime, some, goal, ("look", at)), at in looks)
                self.check_answer(prime, some, goal)

    def check_answer(self, prime, some, goal):
        answer = parts_or_look(prime, some, goal)
        self.assertIs(type(answer), tuple)
        self.assertEqual(len(answer), 2)
        word, letters = answer
        if word == "parts":
            self.assertEqual(len(letters), len(some))
            self.assertEqual(made_of(prime, len(goal), some, letters), goal)
        else:
            self.assertEqual((word, len(letters)), ("look", len(goal)))
            self.assertNotEqual(told(prime, goal, letters), 0)
            self.assertFalse(any(told(prime, row, letters) for row in some))
        self.assertTrue(all(type(letter) is int and 0 <= letter < prime for letter in letters))
        self.assertIs(is_parts_or_look(prime, some, goal, answer), True)
        return word

    def test_great(self):
        generator = random.Random(24)
        for prime, width, some in great_rows():
            goal = made_of(prime, width, some[:9], [generator.randrange(prime) for _ in some[:9]])
            self.assertEqual(self.check_answer(prime, some, goal), "parts")
            far = some_rows(generator, prime, 1, width)[0]
            fewer = some[:199]
            is_made = rank(prime, fewer + (far,)) == rank(prime, fewer)
            self.assertEqual(self.check_answer(prime, fewer, far), "parts" if is_made else "look")

    def test_no_rows(self):
        self.assertEqual(parts_or_look(3, (), (0, 0)), ("parts", ()))
        self.assertEqual(parts_or_look(3, (), (0, 1))[0], "look")
        self.assertIs(is_parts_or_look(3, (), (0, 0), ("parts", ())), True)
        self.assertIs(is_parts_or_look(3, (), (0, 1), ("parts", ())), False)
        self.assertIs(is_parts_or_look(3, (), (0, 1), ("look", (2, 2))), True)
        self.assertIs(is_parts_or_look(3, (), (0, 0), ("look", (0, 0))), False)


class TestTables(unittest.TestCase):
    """[2.5]"""

    def test_product(self):
        for prime, width in ((2, 1), (2, 2), (3, 1), (3, 2)):
            for table in itertools.product(all_rows(prime, 2), repeat=width):
                for many in range(3 if prime == 2 else 2):
                    for some in itertools.product(all_rows(prime, width), repeat=many):
                        wanted = tuple([made_of(prime, 2, table, row) for row in some])
                        self.assertEqual(product(prime, some, table), wanted)

    def test_product_of_any_width(self):
        generator = random.Random(25)
        for many, width, other in ((200, 100, 1), (200, 1, 100), (1, 100, 100), (3, 5, 7), (200, 100, 100)):
            one, two = some_rows(generator, 9973, many, width), some_rows(generator, 9973, width, other)
            made = product(9973, one, two)
            self.assertEqual(len(made), many)
            for at in {0, many // 2, many - 1}:
                self.assertEqual(made[at], made_of(9973, other, two, one[at]))
        wide = some_rows(generator, 5, 3, 100)
        self.assertEqual([product(5, (), wide), product(5, (), ()), product(5, one_table(3), wide)], [(), (), wide])

    def test_inverse_small(self):
        for prime, width in ((2, 1), (3, 1), (5, 1), (2, 2), (3, 2), (2, 3)):
            tables = list(itertools.product(all_rows(prime, width), repeat=width))
            for table in tables:
                columns = tuple(zip(*table))
                is_invertible = rank(prime, table) == width
                self.assertEqual(rank(prime, columns) == width, is_invertible)
                if not is_invertible:
                    error = raised(inverse_table, (prime, table))
                    self.assertEqual((type(error), error.reason), (Refused, ("flat",)))
                    continue
                made = inverse_table(prime, table)
                self.assertEqual(product(prime, made, table), one_table(width))
                self.assertEqual(product(prime, table, made), one_table(width))
                if width < 3:
                    fits = [one for one in tables if product(prime, one, table) == one_table(width)]
                    self.assertEqual(fits, [made])

    def test_inverse_great(self):
        generator = random.Random(26)
        for prime, width in ((9973, 100), (2, 20), (9967, 30)):
            table = some_rows(generator, prime, width, width)
            while rank(prime, table) < width:
                table = some_rows(generator, prime, width, width)
            made = inverse_table(prime, table)
            self.assertEqual(product(prime, made, table), one_table(width))
            self.assertEqual(product(prime, table, made), one_table(width))
            flat = table[:-1] + (made_of(prime, width, table[:1], (1,)),)
            if width > 1:
                self.assertEqual(raised(inverse_table, (prime, flat)).reason, ("flat",))

    def test_inverse_turned(self):
        # Each row is needed in another place than where it stands.
        self.assertEqual(inverse_table(5, ((0, 1, 0), (0, 0, 2), (3, 0, 0))), ((0, 0, 2), (1, 0, 0), (0, 3, 0)))


if __name__ == "__main__":
    unittest.main()
