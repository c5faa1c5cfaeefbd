"""Stage 20: claims, and one judge."""

import itertools
import random
import unittest
from fractions import Fraction

from fetchunseen.base.ranks import is_rank_paper, rank_paper
from fetchunseen.base.rows import is_parts_or_look, parts_or_look
from fetchunseen.bound.chain import is_verdict, verdict
from fetchunseen.bound.least import least_mean
from fetchunseen.judge.claims import WORDS, is_claim, opposite, settled, takes
from fetchunseen.lots.lots import all_lots, lone_lots
from fetchunseen.lots.weights import is_weights_answer, weights_answer
from fetchunseen.make.lone import lone_scheme
from fetchunseen.make.lots import lots_scheme
from fetchunseen.scheme.right import is_right_answer, right_answer
from fetchunseen.scheme.schemes import Scheme, all_scheme, open_scheme
from fetchunseen.scheme.sight import is_seen_answer, seen_answer
from fetchunseen.scheme.tables import alike_answer, is_alike_answer
from tests.shapes import LONE, MIX, MIXED, PAIR, TORN, great_scheme, rank_by_hand, six, some_scheme
from tests.support import CLAIM, Errors, FAR, KINDS, objects, paths, put, shown, some_rows
from tests.test_chain import SQUARE, is_own_fraction
from tests.test_faults import OWN_PRIMES, is_count, is_tuple, own_fault
from tests.test_lots import own_free, some_lots, thirteen
from tests.test_right import ONE
from tests.test_weights import RING

PAIRS = [("rank", "unrank"), ("made", "unmade"), ("alike", "unlike"), ("scale", "unscale"), ("least", "unleast"), ("right", "wrong"),
         ("unseen", "seen"), ("fine", "unfit")]
ROWS = ((1, 2), (2, 4))
C, D = ((1, 0), (0, 1), (1, 1)), ((1, 1), (1, 2), (2, 3))
# Each claim with its first word, and whether it is so.
ABOUT = [
    (("rank", 5, ROWS, 1), True), (("rank", 5, ROWS, 2), False), (("rank", 7, ROWS, 0), False), (("rank", 2, (), 0), True), (("rank", 2, (), 100), False),
    (("rank", 3, ((0, 0, 0),) * 2, 0), True), (("rank", 9973, C, 2), True),
    (("made", 5, ROWS, (3, 1)), True), (("made", 5, ROWS, (1, 1)), False), (("made", 5, (), (0, 0)), True), (("made", 5, (), (0, 1)), False),
    (("alike", 5, 2, C, D), True), (("alike", 5, 2, C, D[:2] + ((2, 4),)), False), (("alike", 2, 100, (), ()), True), (("alike", 3, 1, ((0,),), ((2,),)), False),
    (("scale", 3, RING, (3, 2)), True), (("scale", 3, RING, (2, 1)), False), (("scale", 3, ((0,),), (1, 1)), False), (("scale", 1, ((0,),), (1, 1)), True),
    (("scale", 1, (), (0, 1)), False), (("scale", 4, SQUARE, (2, 1)), True), (("scale", 2, ((0,), (1,)), (-2, 1)), False),
    (("least", 3, RING, 2, 9, (15, 1)), True), (("least", 3, RING, 2, 9, (14, 1)), False), (("least", 3, ((0,),), 20, 100, (100, 1)), True),
    (("least", 3, ((0,),), 2, 1, (3, 2)), False), (("least", 2, ((0,), (1,)), 3, 1, (7, 4)), True), (("least", 2, ((0, 1),), 20, 100, (2000, 1)), True),
    (("right", six(PAIR)), True), (("right", six(LONE)), True), (("right", six(ONE)), False), (("right", six(TORN)), False), (("right", six(MIX)), True),
    (("unseen", six(LONE), ((0,), (1,))), True), (("unseen", six(LONE), ((0, 1),)), False), (("unseen", six(PAIR), ()), True),
    (("unseen", six(MIXED), ((0,), (0, 1))), False), (("unseen", six(ONE), ((0,),)), False), (("unseen", six(open_scheme(2, 1, 1, 3, 0)), ((), (0,))), True),
    (("fine", six(LONE), ((0,), (1,))), True), (("fine", six(LONE), ((0,),)), True), (("fine", six(LONE), ((0, 1),)), False), (("fine", six(ONE), ()), False),
    (("fine", six(MIX), ((0,), (1,))), True), (("fine", six(TORN), ((0,),)), False), (("fine", six(all_scheme(3, 4, 2, 1, 2)), SQUARE), True),
]
TWINS = dict(PAIRS + [pair[::-1] for pair in PAIRS])
TRUE = [claim if so else (TWINS[claim[0]],) + claim[1:] for claim, so in ABOUT]
FALSE = [claim if not so else (TWINS[claim[0]],) + claim[1:] for claim, so in ABOUT]
BENT = KINDS + FAR + [
    0, 1, 2, 3, 4, 5, 6, 7, 12, 20, 21, 100, 101, 9973, 9979, (), ((),), (0,), (1,), (1, 1), (1, 2), (2, 4), (0, 1), (1, -1), (2, 1), ((0,),), ((1,),), ((0, 1),),
    ((0,), (1,)), ((1, 2),), ((1, 2), (3,)), ((1, 2, 3),) * 3, [1, 2], "unrank", "made", "scale", "unleast", "wrong", "seen", "fine", "unfit", "Rank",
    six(LONE), six(ONE), LONE, ONE, thirteen(), RING, (0, 0), (3, 2), (0, 2), False, True,
]


def own_row(prime, value):
    return type(value) is tuple and 1 <= len(value) <= 100 and all([is_count(letter, 0, prime - 1) for letter in value])


def own_rows(prime, value):
    if type(value) is not tuple or len(value) > 200 or not all([own_row(prime, row) for row in value]):
        return False
    return len({len(row) for row in value}) <= 1


def own_lots(houses, value):
    if type(value) is not tuple or len(value) > 12:
        return False
    for lot in value:
        if type(lot) is not tuple or not all([is_count(house, 0, houses - 1) for house in lot]) or list(lot) != sorted(set(lot)):
            return False
    return list(value) == sorted(set(value))


def own_scheme(value):
    return is_tuple(value, 6) and own_fault(*value) is None


def is_own_prime(value):
    return type(value) is int and value in OWN_PRIMES


def own_claim(value):
    """The document's words, one behind the other."""
    if type(value) is not tuple or not value or type(value[0]) is not str or value[0] not in TWINS:
        return False
    kind = [pair[0] for pair in PAIRS if value[0] in pair][0]
    about = value[1:]
    if kind == "rank":
        return len(about) == 3 and is_own_prime(about[0]) and own_rows(*about[:2]) and is_count(about[2], 0, 100)
    if kind == "made":
        if len(about) != 3 or not is_own_prime(about[0]) or not own_rows(*about[:2]) or not own_row(about[0], about[2]):
            return False
        return all([len(row) == len(about[2]) for row in about[1]])
    if kind == "alike":
        if len(about) != 4 or not is_own_prime(about[0]) or not is_count(about[1], 1, 100):
            return False
        if not own_rows(about[0], about[2]) or not own_rows(about[0], about[3]) or len(about[2]) != len(about[3]):
            return False
        return all([len(row) == about[1] for row in about[2] + about[3]])
    if kind in ("scale", "least"):
        if len(about) != (3 if kind == "scale" else 5) or not is_count(about[0], 1, 6) or not own_lots(*about[:2]) or not is_own_fraction(about[-1]):
            return False
        return kind == "scale" or (is_count(about[2], 1, 20) and is_count(about[3], 1, 100))
    if kind == "right":
        return len(about) == 1 and own_scheme(about[0])
    return len(about) == 2 and own_scheme(about[0]) and own_lots(about[0][1], about[1])


def own_takes(claim, paper):
    """[20.2], by the judges of the stages ahead."""
    word, about = claim[0], claim[1:]
    if word in ("rank", "unrank"):
        return is_rank_paper(*about[:2], paper) and (len(paper[1]) == about[2]) == (word == "rank")
    if word in ("made", "unmade"):
        return is_parts_or_look(*about, paper) and paper[0] == {"made": "parts", "unmade": "look"}[word]
    if word in ("alike", "unlike"):
        return is_alike_answer(*about, paper) and paper[0] == {"alike": "table", "unlike": "row"}[word]
    if word in ("scale", "unscale"):
        return is_weights_answer(*about[:2], paper) and (paper[0] == "weights" and paper[1] == about[2]) == (word == "scale")
    if word in ("least", "unleast"):
        if not is_weights_answer(*about[:2], paper):
            return False
        by = Fraction(paper[1][1], paper[1][0]) if paper[0] == "weights" else 0
        least = about[3] * sum([by ** at for at in range(about[2])])
        return (least == Fraction(*about[4])) == (word == "least")
    scheme = Scheme(*about[0])
    if word in ("right", "wrong"):
        return is_right_answer(scheme, paper) and paper[0] == word
    if word in ("unseen", "seen"):
        return is_seen_answer(scheme, about[1], paper) and paper[0] == word
    return is_verdict(scheme, about[1], paper) and (paper[0] == "costs") == (word == "fine")


def papers_for(claim):
    """A paper of each stage for what the claim is about, whether or not it shows the claim."""
    word, about = claim[0], claim[1:]
    if word in ("rank", "unrank"):
        return [rank_paper(*about[:2])]
    if word in ("made", "unmade"):
        return [parts_or_look(*about)]
    if word in ("alike", "unlike"):
        return [alike_answer(*about)]
    if word in ("scale", "unscale", "least", "unleast"):
        return [weights_answer(*about[:2])] + [("free", house) for house in own_free(*about[:2])]
    scheme = Scheme(*about[0])
    if word in ("right", "wrong"):
        return [right_answer(scheme)]
    return [seen_answer(scheme, about[1]) if word in ("unseen", "seen") else verdict(scheme, about[1])]


class TestClaims(Errors):
    """[20.1]"""

    def test_words(self):
        self.assertEqual(WORDS, tuple(PAIRS))
        self.assertEqual([type(pair) for pair in WORDS], [tuple] * 8)

    def test_opposite(self):
        for claim in TRUE + FALSE:
            self.assertIs(is_claim(claim), True)
            self.assertEqual(opposite(claim), (TWINS[claim[0]],) + claim[1:])
            self.assertEqual(opposite(opposite(claim)), claim)

    def test_bent(self):
        """Each part alone."""
        taken = 0
        for claim in TRUE[::2] + FALSE[1::2]:
            for path in paths(claim):
                for value in BENT:
                    bent = put(claim, path, value)
                    told = is_claim(bent)
                    self.assertIs(told, own_claim(bent), shown(bent)[:400])
                    if not told and len(path) < 3:
                        self.check_error(opposite, (bent,), CLAIM(None))
                    taken += told
        self.assertGreater(taken, 1000)

    def test_two_at_once(self):
        generator = random.Random(220)
        for claim in TRUE + FALSE:
            for first, second in itertools.product(range(len(claim)), repeat=2):
                for _ in range(4):
                    bent = put(put(claim, (first,), generator.choice(BENT)), (second,), generator.choice(BENT))
                    self.assertIs(is_claim(bent), own_claim(bent), shown(bent)[:400])

    def test_forms(self):
        for claim in TRUE:
            values = [claim[:-1], claim + (0,), claim + ((),), list(claim), claim[1:], (claim,), claim[:1], (claim[0].upper(),) + claim[1:],
                      ((claim[0],),) + claim[1:], (None,) + claim[1:], {claim[0]: claim[1:]}, claim[:1] + (claim[1:],)]
            self.check_accepts(is_claim, (), values)
            for word in TWINS:
                value = (word,) + claim[1:]
                self.assertIs(is_claim(value), own_claim(value))

    def test_bounds(self):
        zeros = (0,) * 100
        for claim in (("rank", 2, (zeros,) * 200, 100), ("made", 9973, (zeros,) * 200, zeros), ("alike", 2, 100, (zeros,) * 200, (zeros,) * 200),
                      ("scale", 6, thirteen()[:12], (10 ** 60 - 1, 1)), ("least", 6, (), 20, 100, (1 - 10 ** 60, 10 ** 60 - 2)),
                      ("right", six(great_scheme(random.Random(221), 9973, 4, 25, True)))):
            self.assertIs(own_claim(claim), True)
            self.assertIs(is_claim(claim), True)
        for claim in (("rank", 2, (zeros,) * 201, 100), ("rank", 2, (zeros,) * 200, 101), ("made", 9973, (zeros,) * 200, zeros + (0,)),
                      ("alike", 2, 101, (), ()), ("alike", 2, 100, (zeros,) * 200, (zeros,) * 199), ("scale", 6, thirteen(), (1, 1)),
                      ("scale", 6, (), (10 ** 60, 1)), ("least", 6, (), 21, 100, (1, 1)), ("least", 6, (), 20, 101, (1, 1)), ("least", 6, (), 0, 1, (1, 1)),
                      ("right", six(PAIR)[:5] + ((),)), ("unseen", six(LONE), ((2,),))):
            self.assertIs(own_claim(claim), False)
            self.check_accepts(is_claim, (), [claim])

    def test_values_of_every_kind(self):
        self.check_accepts(is_claim, (), KINDS + FAR + [("rank",), ("right", LONE), ("right", list(six(LONE))), ("fine", LONE, ())])
        for function, rest in ((opposite, ()), (settled, ()), (takes, (("unseen",),))):
            for value in KINDS + FAR + [("rank",), ("right", 7), ("right", LONE), (), ("rank", 5, ROWS, True)]:
                self.check_error(function, (value,) + rest, CLAIM(None))
        self.check_arguments(takes, (TRUE[0], None), [(CLAIM, KINDS + FAR + [("rank", 4, ROWS, 1)]), None])


class TestPapers(Errors):
    """[20.2], [20.3]"""

    def check_paper(self, claim, paper):
        """Of both claims just the one that is so takes a paper; returns whether one does."""
        other = (TWINS[claim[0]],) + claim[1:]
        told = [takes(claim, paper), takes(other, paper)]
        self.assertEqual(told, [own_takes(claim, paper), own_takes(other, paper)], shown(paper)[:400])
        self.assertIsNot(told[1], True)
        return told[0]

    def test_told_papers(self):
        for claim in TRUE:
            for paper in papers_for(claim):
                self.assertIs(self.check_paper(claim, paper), True)

    def test_settled(self):
        for claim, other in zip(TRUE, FALSE):
            for some in (claim, other):
                told = settled(some)
                self.assertIs(type(told), tuple)
                self.assertEqual(len(told), 2)
                self.assertEqual(shown(told[0]), shown(claim))
                self.assertIs(takes(*told), True)
                self.assertIs(takes(other, told[1]), False)

    def test_papers_of_other_claims(self):
        """Each paper for each claim: all that are taken show what is so."""
        papers = [paper for claim in TRUE for paper in papers_for(claim)]
        taken = 0
        for claim, paper in itertools.product(TRUE, papers):
            taken += self.check_paper(claim, paper)
        self.assertGreater(taken, len(TRUE))

    def test_bent_papers(self):
        taken = 0
        values = [None, True, False, 0, 1, 2, 3, (), (0,), (1,), (2,), (0, 1), (1, 0), (1, 1), (1, 2), (2, 1), ((1, 0),), ((1, 1), (1, 2)), [1, 0], "free", "parts", "look",
                  "row", "table", "weights", "right", "wrong", "seen", "unseen", "costs", "rank", 10 ** 60, *objects()]
        for claim in TRUE:
            if len(shown(papers_for(claim)[0])) > 900:
                continue
            for path in paths(papers_for(claim)[0]):
                for value in values:
                    taken += self.check_paper(claim, put(papers_for(claim)[0], path, value))
        self.assertGreater(taken, 200)

    def test_other_papers(self):
        """Correct ones that are not returned."""
        for claim, paper in (
            (("rank", 5, ROWS, 1), ("rank", (1,), ((3,), (1,)), ((3, 0),))), (("rank", 5, ROWS, 1), ("rank", (0,), ((1,), (2,)), ((0, 3),))),
            (("made", 5, ROWS, (3, 1)), ("parts", (1, 1))), (("made", 5, ROWS, (3, 1)), ("parts", (3, 0))), (("unmade", 5, ROWS, (1, 1)), ("look", (1, 2))),
            (("alike", 5, 2, C[:1], D[:1]), ("table", ((1, 1), (0, 4)))), (("unlike", 5, 2, C, ((1, 1), (1, 2), (2, 4))), ("row", (2, 2, 3))),
            (("scale", 4, SQUARE, (2, 1)), ("weights", (2, 1), ((1, 2),) * 4, ((1, 1), (0, 1), (0, 1), (1, 1)))),
            (("unscale", 4, SQUARE, (2, 3)), ("weights", (2, 1), ((1, 1), (0, 1), (1, 1), (0, 1)), ((1, 2),) * 4)),
            (("least", 4, SQUARE, 2, 4, (6, 1)), ("weights", (2, 1), ((1, 2),) * 4, ((0, 1), (1, 1), (1, 1), (0, 1)))),
            (("least", 3, ((0,),), 5, 4, (4, 1)), ("free", 2)), (("unscale", 3, ((0,),), (3, 1)), ("free", 1)),
            (("wrong", six(ONE)), ("wrong", 0, 0, (1, 2))), (("wrong", six(ONE)), ("wrong", 0, 0, (2, 1))), (("unfit", six(ONE), ((0,),)), ("wrong", 0, 0, (1, 2))),
            (("seen", six(LONE), ((0, 1),)), ("seen", (0, 1), 0, 1, (((1, 1),), ((0, 1),)))),
        ):
            self.assertIs(self.check_paper(claim, paper), True)

    def test_values_of_every_kind(self):
        for claim in TRUE + FALSE:
            self.check_accepts(takes, (claim,), KINDS + FAR + [(), ("rank",), claim, (claim,), ("free",), ("free", 0, 0), ("seen",), ("costs",), ("unseen", ())])

    def test_some(self):
        generator = random.Random(222)
        counted = {}
        for _ in range(150):
            prime = generator.choice([2, 3, 5])
            rows, more = some_rows(generator, prime, 3, 2), some_rows(generator, prime, 3, 2)
            houses = generator.randrange(1, 5)
            lots = some_lots(generator, houses, generator.randrange(1, 5))
            told = six(some_scheme(generator, 2, houses, 2, 1, generator.randrange(2) == 1))
            books, length = generator.randrange(1, 4), generator.randrange(1, 4)
            least = generator.choice([least_mean(houses, lots, books, length), (3, 2)])
            for claim in (("rank", prime, rows, generator.randrange(3)), ("made", prime, rows[:2], rows[2]), ("alike", prime, 2, rows, more), ("right", told),
                          ("scale", houses, lots, generator.choice([(1, 1), (2, 1), (3, 2)])), ("least", houses, lots, books, length, least),
                          ("unseen", told, lots), ("fine", told, lots)):
                which, paper = settled(generator.choice([claim, opposite(claim)]))
                self.assertIn(which, (claim, opposite(claim)))
                self.assertIs(self.check_paper(which, paper), True)
                counted[which[0]] = counted.get(which[0], 0) + 1
                if which[0] in ("rank", "unrank"):
                    self.assertEqual(which[0] == "rank", rank_by_hand(prime, rows) == claim[3])
        self.assertEqual(set(counted), set(TWINS))
        self.assertGreater(min(counted.values()), 2)

    def test_great(self):
        generator = random.Random(223)
        rows = some_rows(generator, 9973, 200, 100)
        great = great_scheme(generator, 9973, 4, 25, True)
        least = lots_scheme(37, 6, all_lots(6, 5), 2)
        for claim in (("rank", 9973, rows, 100), ("made", 9973, rows, rows[7]), ("unmade", 9973, rows[:90], rows[99]), ("right", six(great)),
                      ("unlike", 9973, 100, rows, rows[::-1]), ("alike", 9973, 100, rows[:90], rows[90:180]), ("scale", 6, all_lots(6, 5), (6, 5)),
                      ("fine", six(least), all_lots(6, 5)), ("unseen", six(least), all_lots(6, 5)), ("fine", six(lone_scheme(2, 5, 3)), lone_lots(5))):
            told = self.check_within(20, settled, claim)
            self.assertEqual(told[0], claim)
            self.assertIs(self.check_within(20, takes, *told), True)
            self.assertIs(self.check_within(20, takes, opposite(claim), told[1]), False)

    def test_equal_calls(self):
        for claim in TRUE + FALSE[:8]:
            self.check_twice(is_claim, [(claim,)])
            self.check_twice(opposite, [(claim,)])
            self.check_twice(settled, [(claim,)])
            self.check_twice(takes, [(claim, papers_for(claim)[0])])

    def test_not_true(self):
        """[20.4]"""
        self.assertEqual([takes(("unseen", six(LONE), lots), ("unseen",)) for lots in ((), ((0,),))], [True, True])
        self.assertEqual([settled(("unfit", six(LONE), ((0, 1),)))[0][0], settled(("wrong", six(LONE)))[0][0]], ["unfit", "right"])
        paper = settled(("scale", 2, ((0,), (1,)), (2, 1)))[1]
        self.assertEqual(settled(("scale", 4, SQUARE, (2, 1)))[0][0], "scale")
        self.assertIs(takes(("scale", 4, SQUARE, (2, 1)), paper), False)
        self.assertEqual([takes(("rank", 5, ROWS, 2), settled(("rank", 5, ROWS, 2))[1]), settled(("rank", 5, ROWS, 2))[0][0]], [False, "unrank"])


if __name__ == "__main__":
    unittest.main()
