"""Stage 3: ranks, their papers, and the ranks of some of the rows."""

import itertools
import random
import unittest
from fractions import Fraction

from fetchunseen.base.ranks import both_ranks, cover_numbers, is_rank_paper, meet_of, rank_beside, rank_of, rank_paper
from fetchunseen.base.rows import basis
from fetchunseen.errors import InvalidOperation
from tests.support import Errors, FAR, FRACTION, KINDS, LOTS, OPERATION, PRIMES, ROWS, all_rows, count_of_span, made_of
from tests.support import mixed_rows, no_rows, number, objects, some_rows, span_of, told
from tests.test_fractions import NO_FRACTIONS
from tests.test_rows import great_rows, small_rows

AS_PRIME = (number, PRIMES)
AS_ROWS = (ROWS, no_rows(5))
THREE = ((1, 2, 0), (2, 4, 0), (0, 1, 1))
PAPER = ("rank", (0, 2), ((1, 0), (2, 0), (0, 1)), ((1, 0, 0), (0, 0, 1)))
NO_OPERATION = (InvalidOperation, None, None)


def subsets(many):
    return [some for most in range(many + 1) for some in itertools.combinations(range(many), most)]


def at_places(rows, places):
    return tuple([rows[place] for place in places])


def is_own_paper(prime, width, rows, paper):
    """Whether the parts and looks are as [3.1] tells; all members have the right kinds."""
    _, places, parts, looks = paper
    chosen = at_places(rows, places)
    if any(made_of(prime, width, chosen, letters) != row for letters, row in zip(parts, rows)):
        return False
    return all(told(prime, row, look) == int(at == to) for at, row in enumerate(chosen) for to, look in enumerate(looks))


def no_places(many):
    """What is no ascending tuple of indices below `many`."""
    return KINDS + FAR + [
        0, (many,), (0, many), (1, 0), (0, 0), (-1,), (-1, 0), (True,), (0, True), (False,), [0], [], (None,), ("0",),
        ((0,),), (0, 10 ** 60), (10 ** 99,), {0: 0}, (objects()[0],), (0, 2, 1),
    ]


class TestPaper(Errors):
    """[3.1]"""

    def check_paper(self, prime, width, rows, wanted):
        paper = rank_paper(prime, rows)
        word, places, parts, looks = paper
        self.assertEqual((type(paper), word, len(places)), (tuple, "rank", wanted))
        self.assertEqual(list(places), sorted(set(places)))
        self.assertTrue(all(0 <= place < len(rows) for place in places))
        self.assertEqual([len(letters) for letters in parts], [wanted] * len(rows))
        self.assertEqual([len(look) for look in looks], [width] * wanted)
        for row in parts + looks:
            self.assertTrue(all(type(letter) is int and 0 <= letter < prime for letter in row))
        self.assertEqual([type(some) for some in paper[1:]], [tuple] * 3)
        self.assertIs(is_rank_paper(prime, rows, paper), True)
        return paper

    def test_small(self):
        for prime, width, rows in small_rows():
            paper = self.check_paper(prime, width, rows, count_of_span(prime, width, rows))
            self.assertTrue(is_own_paper(prime, width, rows, paper))

    def test_great(self):
        for prime, width, rows in great_rows():
            wanted = len(basis(prime, rows))
            paper = self.check_paper(prime, width, rows, wanted)
            if wanted < 50:
                self.assertTrue(is_own_paper(prime, width, rows, paper))
            if wanted > 1:
                broken = paper[2][:9] + ((1,) * wanted,) + paper[2][10:]
                self.assertIs(is_rank_paper(prime, rows, (paper[0], paper[1], broken, paper[3])), False)
                broken = paper[3][:-1] + (made_of(prime, width, paper[3], (1,) * wanted),)
                self.assertIs(is_rank_paper(prime, rows, (*paper[:3], broken)), False)

    def test_each_paper_is_taken_and_no_other(self):
        for prime, width, rows in small_rows():
            if (prime > 2 or width > 2 or len(rows) > 2) and (prime, width, len(rows)) not in ((3, 1, 2), (2, 3, 1)):
                continue
            taken = 0
            for places in subsets(len(rows)):
                all_parts = itertools.product(all_rows(prime, len(places)), repeat=len(rows))
                all_looks = list(itertools.product(all_rows(prime, width), repeat=len(places)))
                for parts, looks in itertools.product(all_parts, all_looks):
                    value = ("rank", places, parts, looks)
                    wanted = is_own_paper(prime, width, rows, value)
                    self.assertIs(is_rank_paper(prime, rows, value), wanted)
                    taken += wanted
                    if wanted:
                        self.assertEqual(len(places), count_of_span(prime, width, rows))
            self.assertGreater(taken, 0)

    def test_other_papers(self):
        self.assertIs(is_rank_paper(5, THREE, PAPER), True)
        others = [
            ("rank", (1, 2), ((3, 0), (1, 0), (0, 1)), ((3, 0, 0), (0, 0, 1))),
            ("rank", (0, 2), PAPER[2], ((1, 0, 0), (3, 1, 0))),
            ("rank", (0, 2), PAPER[2], ((4, 1, 4), (0, 0, 1))),
        ]
        for paper in others:
            self.assertIs(is_rank_paper(5, THREE, paper), True)

    def test_no_rows_and_zeros(self):
        self.assertEqual(rank_paper(2, ()), ("rank", (), (), ()))
        self.assertEqual(rank_paper(3, ((0, 0),) * 3), ("rank", (), ((), (), ()), ()))
        self.assertEqual(rank_paper(3, ((0, 2),)), ("rank", (0,), ((1,),), ((0, 2),)))
        self.check_accepts(is_rank_paper, (2, ()), [("rank", (), ((),), ()), ("rank", (), (), ((),)), ("rank", (0,), (), ())])
        wrong = [("rank", (), ((), ()), ()), ("rank", (0,), ((1,), (1,), (1,)), ((0, 0),)), ("rank", (), (), ())]
        self.check_accepts(is_rank_paper, (3, ((0, 0),) * 3), wrong)
        self.assertIs(is_rank_paper(3, ((0, 1),), ("rank", (), ((),), ())), False)

    def test_judged_values(self):
        _, places, parts, looks = PAPER
        values = KINDS + FAR + [(), PAPER[:3], PAPER + ((),), list(PAPER), ("unrank", places, parts, looks), "rank"]
        values += [("rank", some, parts, looks) for some in no_places(3) + [(0,), (0, 1), (1, 2), (0, 1, 2), ()]]
        values += [("rank", places, some, looks) for some in KINDS + FAR + [
            (), parts[:2], parts + ((0, 0),), list(parts), ([1, 0], *parts[1:]), ((True, 0), *parts[1:]),
            ((1, False), *parts[1:]), ((6, 0), *parts[1:]), ((1, -5), *parts[1:]), ((1,), *parts[1:]),
            ((1, 0, 0), *parts[1:]), ((2, 0), *parts[1:]), (None, *parts[1:]), ((1, None), *parts[1:]),
            ((1, 10 ** 60), *parts[1:]), ("10", *parts[1:]), ((), (), ()),
        ]]
        values += [("rank", places, parts, some) for some in KINDS + FAR + [
            (), looks[:1], looks + looks, looks[::-1], list(looks), ([1, 0, 0], looks[1]), ((True, 0, 0), looks[1]),
            ((1, 0, False), looks[1]), ((6, 0, 0), looks[1]), ((1, 0, -5), looks[1]), ((1, 0), looks[1]),
            ((1, 0, 0, 0), looks[1]), ((1, 1, 0), looks[1]), (None, looks[1]), ((1, 0, None), looks[1]),
            ((1, 0, 10 ** 99), looks[1]), ("100", looks[1]), ((0, 0, 0), looks[1]), ((2, 0, 0), looks[1]),
        ]]
        values += [(some, places, parts, looks) for some in objects() + [None, True, [], "RANK", ("rank",)]]
        self.check_accepts(is_rank_paper, (5, THREE), values)

    def test_errors(self):
        self.check_arguments(rank_paper, (5, THREE), [AS_PRIME, AS_ROWS])
        self.check_arguments(is_rank_paper, (5, THREE, PAPER), [AS_PRIME, AS_ROWS, None])
        self.check_arguments(is_rank_paper, (5, THREE, None), [AS_PRIME, AS_ROWS, None])


class TestPlaces(Errors):
    """[3.2]"""

    def test_small(self):
        for prime, width, rows in small_rows():
            if len(rows) > 2 and prime > 2:
                continue
            ranks = {places: rank_of(prime, rows, places) for places in subsets(len(rows))}
            for places, many in ranks.items():
                self.assertEqual(many, count_of_span(prime, width, at_places(rows, places)))
                for one in range(len(rows)):
                    more = ranks[tuple(sorted({*places, one}))]
                    is_made = rows[one] in span_of(prime, width, at_places(rows, places))
                    self.assertEqual(more, many + (not is_made))
            for one, other in itertools.product(ranks, repeat=2):
                either, both = tuple(sorted({*one, *other})), tuple(sorted({*one} & {*other}))
                self.assertLessEqual(ranks[either] + ranks[both], ranks[one] + ranks[other])

    def test_great(self):
        generator = random.Random(30)
        for prime, width, rows in great_rows():
            every = tuple(range(len(rows)))
            self.assertEqual(rank_of(prime, rows, every), len(basis(prime, rows)))
            self.assertEqual(rank_of(prime, rows, ()), 0)
            places = tuple(sorted(generator.sample(every, len(rows) // 2)))
            self.assertEqual(rank_of(prime, rows, places), len(basis(prime, at_places(rows, places))))

    def test_errors(self):
        self.check_arguments(rank_of, (5, THREE, (0, 2)), [AS_PRIME, AS_ROWS, (OPERATION, no_places(3))])
        self.check_error(rank_of, (5, (), (0,)), NO_OPERATION)
        self.assertEqual(rank_of(5, (), ()), 0)


class TestBeside(Errors):
    """[3.3]"""

    def test_small(self):
        for prime, width, rows in small_rows():
            whole = count_of_span(prime, width, rows)
            span = span_of(prime, width, rows)
            for columns in subsets(width) if rows else [()]:
                left = tuple([tuple([0 if at in columns else row[at] for at in range(width)]) for row in rows])
                beside = rank_beside(prime, rows, columns)
                self.assertEqual(beside, count_of_span(prime, width, left))
                within = [row for row in span if not any(row[at] for at in range(width) if at not in columns)]
                self.assertEqual(prime ** (whole - beside), len(within))
                units = [tuple([int(at == to) for to in range(width)]) for at in columns]
                if all(unit in span for unit in units):
                    self.assertEqual(whole, beside + len(columns))

    def test_great(self):
        for prime, width, rows in great_rows():
            self.assertEqual(rank_beside(prime, rows, tuple(range(width))), 0)
            self.assertEqual(rank_beside(prime, rows, ()), len(basis(prime, rows)))
            half = tuple(range(0, width, 2))
            left = tuple([tuple([0 if at % 2 == 0 else letter for at, letter in enumerate(row)]) for row in rows])
            self.assertEqual(rank_beside(prime, rows, half), len(basis(prime, left)))

    def test_errors(self):
        wrong = [AS_PRIME, AS_ROWS, (OPERATION, no_places(3))]
        self.check_arguments(rank_beside, (5, THREE, (0, 2)), wrong)
        self.check_arguments(rank_beside, (5, THREE * 2, (0, 2)), wrong)
        self.check_error(rank_beside, (5, (), (0,)), NO_OPERATION)
        self.assertEqual(rank_beside(5, (), ()), 0)


class TestMeet(Errors):
    """[3.4]"""

    def check_meet(self, prime, width, one, other):
        meet = meet_of(prime, one, other)
        whole = span_of(prime, width, one) & span_of(prime, width, other)
        self.assertEqual(span_of(prime, width, meet), whole)
        self.assertEqual(basis(prime, meet), meet)
        ranks = tuple([count_of_span(prime, width, some) for some in (one, other, one + other, meet)])
        self.assertEqual(both_ranks(prime, one, other), ranks)
        self.assertEqual(ranks[0] + ranks[1], ranks[2] + ranks[3])

    def test_small(self):
        for prime, width, most in ((2, 1, 2), (2, 2, 2), (3, 1, 2), (2, 3, 1), (3, 2, 1)):
            some = [rows for many in range(most + 1) for rows in itertools.product(all_rows(prime, width), repeat=many)]
            for one, other in itertools.product(some, repeat=2):
                self.check_meet(prime, width, one, other)

    def test_more(self):
        generator = random.Random(31)
        for prime, width in ((2, 5), (3, 4), (5, 3)):
            for _ in range(60):
                one, other = (some_rows(generator, prime, generator.randrange(4), width) for _ in range(2))
                self.check_meet(prime, width, one, other)

    def test_great(self):
        generator = random.Random(32)
        for prime in (9973, 2):
            shared, own, others = (some_rows(generator, prime, many, 100) for many in (20, 30, 40))
            one, other = mixed_rows(generator, prime, shared + own, 200), mixed_rows(generator, prime, shared + others, 200)
            meet = meet_of(prime, one, other)
            self.assertEqual(meet, basis(prime, shared))
            self.assertEqual(both_ranks(prime, one, other), (50, 60, 90, 20))
            full = some_rows(generator, prime, 200, 100)
            self.assertEqual(both_ranks(prime, full, full), (100, 100, 100, 100))
            self.assertEqual(len(meet_of(prime, full, full[::-1])), 100)

    def test_edges(self):
        for one, other in (((), ()), ((), THREE), (THREE, ()), (((0, 0, 0),), THREE)):
            self.assertEqual(meet_of(5, one, other), ())
        self.assertEqual([both_ranks(5, (), THREE), both_ranks(5, THREE, ()), both_ranks(2, (), ())],
                         [(0, 2, 2, 0), (2, 0, 2, 0), (0, 0, 0, 0)])

    def test_not_true(self):
        self.assertEqual(meet_of(2, ((1, 0), (0, 1)), ((1, 1),)), ((1, 1),))
        self.assertEqual([rank_of(5, THREE, (0,)), rank_of(5, THREE, (1, 2)), rank_of(5, THREE, (0, 1, 2))], [1, 2, 2])

    def test_errors(self):
        for function in (meet_of, both_ranks):
            self.check_arguments(function, (5, THREE, THREE[:1]), [AS_PRIME, AS_ROWS, AS_ROWS])
            for one, other in ((((1, 2),), THREE), (THREE, ((0,) * 100,)), (((0,),), ((0, 0),))):
                self.check_error(function, (5, one, other), NO_OPERATION)
                self.check_error(function, (4, one, other), number(4))
            self.check_error(function, (5, ((1, 2),), ((1, 2), (1,))), ROWS(None))


class TestCovers(Errors):
    """[3.5]"""

    def check_cover(self, prime, rows, lots, cover):
        told_sum, whole = cover_numbers(prime, rows, lots, cover)
        ranks = [len(basis(prime, at_places(rows, lot))) for lot in lots]
        wanted = sum([many * Fraction(*part) for many, part in zip(ranks, cover)], Fraction(0))
        self.assertEqual(told_sum, (wanted.numerator, wanted.denominator))
        self.assertEqual(whole, len(basis(prime, rows)))
        self.assertGreaterEqual(wanted, whole)

    def is_covered(self, many, lots, cover):
        borne = [sum([Fraction(*part) for lot, part in zip(lots, cover) if at in lot], Fraction(0)) for at in range(many)]
        return all(some >= 1 for some in borne)

    def test_small(self):
        parts = ((0, 1), (1, 3), (1, 2), (1, 1))
        for rows in itertools.product(all_rows(2, 2), repeat=2):
            for lots in itertools.product(subsets(2), repeat=2):
                for cover in itertools.product(parts, repeat=2):
                    if self.is_covered(2, lots, cover):
                        self.check_cover(2, rows, lots, cover)
                    else:
                        self.check_error(cover_numbers, (2, rows, lots, cover), NO_OPERATION)

    def test_more(self):
        generator = random.Random(33)
        covered = 0
        for _ in range(400):
            many = generator.randrange(1, 6)
            rows = some_rows(generator, 3, many, 3)
            lots = tuple([generator.choice(subsets(many)) for _ in range(generator.randrange(2, 9))])
            cover = tuple([generator.choice(((1, 3), (1, 2), (2, 5), (1, 1), (0, 1), (7, 4))) for _ in lots])
            if self.is_covered(many, lots, cover):
                self.check_cover(3, rows, lots, cover)
                covered += 1
            else:
                self.check_error(cover_numbers, (3, rows, lots, cover), NO_OPERATION)
        self.assertGreater(covered, 50)

    def test_edges(self):
        self.assertEqual(cover_numbers(5, (), (), ()), ((0, 1), 0))
        self.assertEqual(cover_numbers(5, (), ((), ()), ((1, 2), (0, 1))), ((0, 1), 0))
        self.assertEqual(cover_numbers(5, ((0, 0),), ((0,),), ((1, 1),)), ((0, 1), 0))
        self.assertEqual(cover_numbers(5, ((0, 1),), ((0,), (0,), ()), ((1, 2), (1, 2), (0, 1))), ((1, 1), 1))
        self.assertEqual(cover_numbers(5, THREE, ((0, 1, 2),) * 12, ((1, 12),) * 12), ((2, 1), 2))
        most = (10 ** 60 - 1, 10 ** 60 - 2)
        long = cover_numbers(5, ((1,),), ((0,), (0,)), (most, (10 ** 60 - 1, 10 ** 59)))
        self.assertEqual(Fraction(*long[0]), Fraction(*most) + Fraction(10 ** 60 - 1, 10 ** 59))
        self.assertGreater(long[0][1], 10 ** 60)

    def test_great(self):
        generator = random.Random(34)
        rows = some_rows(generator, 9973, 200, 100)
        lots = tuple([tuple([at for at in range(200) if at % 12 != less]) for less in range(12)])
        self.assertEqual(cover_numbers(9973, rows, lots, ((1, 11),) * 12), ((1200, 11), 100))
        self.check_error(cover_numbers, (9973, rows, lots, ((1, 11),) * 11 + ((1, 12),)), NO_OPERATION)

    def test_errors(self):
        lots, cover = ((0, 1), (1, 2), (0, 2)), ((1, 2), (1, 2), (1, 2))
        wrong_lots = KINDS + FAR + [
            3, (0,), (0, 1), [(0, 1)], ([0, 1],), ((1, 0),), ((0, 0),), ((0, 3),), ((True,),), ((0, None),), ((-1, 0),),
            ((0, 1, 2),) * 13, (None,), ((0,), 1), (("0",),), ((0, 10 ** 60),), ("",), ({},),
        ]
        wrong_covers = KINDS + FAR + [
            (), 3, (1, 2), cover[:2], cover + cover[:1], list(cover), ((1, 1), (1, 1), (-1, 2)), ((1, 1), (1, 1), (2, 4)),
            ((1, 1), (1, 1), None), ((1, 1), (1, 1), (True, 1)), ((1, 1), (1, 1), (1, 10 ** 60)),
        ] + [((1, 1), (1, 1), some) for some in NO_FRACTIONS]
        wrong = [AS_PRIME, AS_ROWS, (LOTS, wrong_lots), (FRACTION, wrong_covers)]
        self.check_arguments(cover_numbers, (5, THREE, lots, cover), wrong)
        for less in (((1, 2), (1, 2), (1, 3)), ((0, 1),) * 3):
            self.check_error(cover_numbers, (5, THREE, lots, less), NO_OPERATION)
            self.check_error(cover_numbers, (6, THREE, lots, less), number(6))
        self.check_error(cover_numbers, (5, THREE, ((0, 1),), ((1, 1), (0, 1))), FRACTION(None))
        self.check_error(cover_numbers, (5, THREE, (), ()), NO_OPERATION)
        almost = ((1, 2), (1, 2), (10 ** 59 - 1, 2 * 10 ** 59))
        self.check_error(cover_numbers, (5, THREE, lots, almost), NO_OPERATION)


class TestCalls(Errors):
    def test_equal_calls(self):
        generator = random.Random(35)
        rows = some_rows(generator, 2, 9, 5)
        self.check_twice(rank_paper, [(2, rows), (5, THREE), (5, ())])
        self.check_twice(is_rank_paper, [(5, THREE, PAPER)])
        self.check_twice(rank_of, [(2, rows, (0, 3, 8))])
        self.check_twice(rank_beside, [(2, rows, (1, 4))])
        for function in (meet_of, both_ranks):
            self.check_twice(function, [(2, rows[:3], rows[3:])])
        self.check_twice(cover_numbers, [(2, rows[:2], ((0, 1),), ((7, 3),))])


if __name__ == "__main__":
    unittest.main()
