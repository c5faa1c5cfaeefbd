"""Every example block of the document's sections, as it stands there."""

import unittest

from tests.support import run_examples

FIELDS = """
>>> [is_prime(9973), is_prime(1), is_prime(True), next_prime(24), next_prime(2), next_prime(0)]
[True, False, False, 29, 2, 2]
>>> [inverse(7, 3), power(7, 3, 6), power(7, 3, 10 ** 9), power(7, 0, 0), power(7, 0, 5)]
[5, 1, 4, 1, 0]
>>> [root(2), root(7), root(41), exponent_of(7, 3, 6), exponent_of(7, 2, 3), exponent_of(7, 0, 0), exponent_of(7, 5, 1)]
[1, 3, 6, 3, None, 1, 0]
>>> [letters_at(3, 4, 50), number_at(3, (1, 2, 1, 2)), letters_at(5, 0, 0), number_at(5, ()), letters_at(2, 3, 1)]
[(1, 2, 1, 2), 50, (), 0, (0, 0, 1)]
>>> inverse(5, 0)
raises Refused(('zero',))
>>> letters_at(3, 2, 9)
raises InvalidNumber(9)
>>> inverse(9, 2)
raises InvalidNumber(9)
"""

ROWS = """
>>> ROWS = ((1, 2, 3), (2, 4, 1))
>>> [dot(5, (1, 2, 3), (4, 1, 1)), plus(5, (1, 2, 3), (4, 4, 4)), multiple(5, (1, 2, 3), 3), rank(5, ROWS), basis(7, ROWS)]
[4, (0, 1, 2), (3, 1, 4), 1, ((1, 2, 0), (0, 0, 1))]
>>> [basis(5, ROWS), kernel(5, 3, ROWS), relations(5, ROWS), kernel(2, 2, ()), relations(5, ())]
[((1, 2, 3),), ((1, 0, 3), (0, 1, 1)), ((1, 2),), ((1, 0), (0, 1)), ()]
>>> [is_parts_or_look(5, ROWS, (3, 1, 4), ("parts", (1, 1))), parts_or_look(5, ROWS, (0, 0, 1))[0], is_parts_or_look(5, ROWS, (0, 0, 1), ("look", (1, 0, 3)))]
[True, 'look', True]
>>> [product(5, ((1, 2), (0, 1)), ((1, 1), (3, 0))), inverse_table(5, ((1, 2), (0, 1)))]
[((2, 1), (3, 0)), ((1, 3), (0, 1))]
>>> inverse_table(5, ((1, 2), (2, 4)))
raises Refused(('flat',))
"""

RANKS = """
>>> ROWS = ((1, 2, 0), (2, 4, 0), (0, 1, 1))
>>> is_rank_paper(5, ROWS, ("rank", (0, 2), ((1, 0), (2, 0), (0, 1)), ((1, 0, 0), (0, 0, 1))))
True
>>> [is_rank_paper(5, ROWS, ("rank", (0, 2), ((1, 0), (2, 0), (0, 1)), ((1, 1, 0), (0, 0, 1)))), rank_paper(5, ()), len(rank_paper(5, ROWS)[1])]
[False, ('rank', (), (), ()), 2]
>>> [rank_of(5, ROWS, (0, 1)), rank_beside(5, ROWS, (1,)), rank_beside(5, ROWS, (0, 1)), meet_of(2, ((1, 0),), ((1, 1),))]
[1, 2, 1, ()]
>>> [meet_of(5, ((1, 0, 0), (0, 1, 0)), ((2, 2, 0), (0, 0, 1))), both_ranks(5, ((1, 0, 0), (0, 1, 0)), ((2, 2, 0), (0, 0, 1)))]
[((1, 1, 0),), (2, 2, 3, 1)]
>>> cover_numbers(5, ((1, 0), (0, 1), (1, 1)), ((0, 1), (1, 2), (0, 2)), ((1, 2), (1, 2), (1, 2)))
((3, 1), 2)
>>> cover_numbers(5, ((1, 0),), ((0,),), ((1, 2),))
raises InvalidOperation
"""

FRACTIONS = """
>>> [fraction(6, -4), plus((1, 2), (1, 3)), less((1, 3), (1, 2)), times((2, 3), (-3, 4)), over((1, 2), (-3, 4)), compared((1, 2), (2, 3))]
[(-3, 2), (5, 6), (-1, 6), (-1, 2), (-2, 3), -1]
>>> [added(((1, 2), (1, 3), (1, 6))), added(()), mean(((1, (2, 1)), (3, (4, 1)))), mean(((2, (1, 2)), (1, (1, 5))))]
[(1, 1), (0, 1), (7, 2), (2, 5)]
>>> [powers_added((2, 3), 3), powers_added((1, 1), 5), powers_added((1, 2), 10), powers_added((-1, 1), 4), powers_added((0, 1), 7)]
[(19, 9), (5, 1), (1023, 512), (0, 1), (1, 1)]
>>> [is_fraction(some) for some in ((2, 4), (0, 1), (1, -2), (True, 1), (3, 1), (0, 2), 3)]
[False, True, False, False, True, False, False]
>>> fraction(0, -7)
(0, 1)
>>> over((1, 2), (0, 1))
raises Refused(('zero',))
"""

LOTS = """
>>> LOTS = ((), (0, 1), (0, 1, 3), (2,))
>>> [is_lots(5, LOTS), is_lots(3, LOTS), is_lots(5, LOTS[::-1]), is_lots(2, ((False,),)), is_lots(1, ())]
[True, False, False, False, True]
>>> [greatest_lots(5, LOTS), free_houses(5, LOTS), greatest_lots(2, ((),)), free_houses(2, ()), lone_lots(3)]
[((0, 1, 3), (2,)), (4,), ((),), (0, 1), ((0,), (1,), (2,))]
>>> [all_lots(4, 3), all_lots(2, 0), are_within(5, LOTS, ((0, 1, 2, 3),)), are_within(3, ((0, 1),), ((0,), (1,))), are_within(3, (), ())]
[((0, 1, 2), (0, 1, 3), (0, 2, 3), (1, 2, 3)), ((),), True, False, True]
>>> [exchanged_lots(3, ((0, 1), (2,)), (2, 0, 1)), spread_lots(3, ((0, 1), (1,), (1, 2)), (1, 0, 3)), spread_lots(2, ((0,), (0, 1)), (2, 0))]
[((0, 2), (1,)), ((), (0,), (1, 2, 3)), ((0, 1),)]
>>> all_lots(6, 3)
raises TooMany(12)
"""

WEIGHTS = """
>>> RING, PATH = ((0, 1), (0, 2), (1, 2)), ((0, 1), (1, 2), (2, 3))
>>> [weights_answer(3, RING), parts_of(3, RING), parts_of(4, PATH)]
[('weights', (3, 2), ((1, 2), (1, 2), (1, 2)), ((1, 2), (1, 2), (1, 2))), ((1, 1, 1), 2), ((0, 1, 0, 1), 1)]
>>> [is_weights(3, RING, ((1, 1), (0, 1), (0, 1))), is_weights(3, RING, ((1, 1), (1, 2), (0, 1))), is_cover(3, RING, ((1, 1), (1, 1), (0, 1))), is_cover(3, RING, ((1, 2), (1, 2), (0, 1)))]
[True, False, True, False]
>>> [weights_answer(3, ((0, 1),)), is_weights_answer(3, RING, ("free", 0)), weights_answer(2, ((0, 1),))[1], sum_of(((1, 2), (1, 3))), lot_sums_of(3, RING, ((1, 2), (1, 3), (0, 1)))]
[('free', 2), False, (1, 1), (5, 6), ((5, 6), (1, 2), (1, 3))]
>>> parts_of(2, ((0,),))
raises Refused(('free', 1))
"""

LIBRARY = """
>>> LIB, ASK = Library(5, ((1, 2, 3), (4, 0, 1))), (1, 0, 0, 1, 0, 2)
>>> [LIB.many, LIB.length, LIB.row, LIB.told(ASK), str(LIB)]
[2, 3, (1, 2, 3, 4, 0, 1), 2, 'library of 2 books of 3 letters modulo 5']
>>> [LIB.with_letter(1, 0, 0).books, LIB.exchanged((1, 0)).row, LIB.less(Library(5, ((1, 2, 3), (4, 1, 1)))), library_of(5, 2, 3, LIB.row) == LIB]
[((1, 2, 3), (0, 0, 1)), (4, 0, 1, 1, 2, 3), (0, 0, 0, 0, 4, 0), True]
>>> [unit(5, 2, 3, 1, 0), part(5, 2, 3, ASK, 1), without(5, 2, 3, ASK, 0), exchanged_row(5, 2, ASK, (1, 0)), joined_rows(5, 2, (1, 2), (3, 4, 0, 1))]
[(0, 0, 0, 1, 0, 0), (1, 0, 2), (0, 0, 0, 1, 0, 2), (1, 0, 2, 1, 0, 0), (1, 3, 4, 2, 0, 1)]
>>> LIB.told((1, 2))
raises InvalidOperation
"""

SCHEMES = """
>>> PAIR = Scheme(2, 2, 2, 1, False, (((1, (((0, 1),), ((1, 1),))), (1, (((1, 1),), ((0, 1),)))), ((1, (((1, 0),), ((1, 1),))), (1, (((1, 1),), ((1, 0),))))))
>>> [str(PAIR), PAIR.width, sums_of(PAIR, 0, 1), lot_sums(PAIR, 1, 0, (1,)), mean(PAIR, 0)]
['plain scheme of 2 books of 1 letters at 2 houses, modulo 2', 2, ((1, 1), (0, 1)), ((1, 1),), (2, 1)]
>>> [mean(together(PAIR, PAIR), 1), together(PAIR, PAIR).length, len(together(PAIR, PAIR).wishes[0]), sums_of(together(PAIR, PAIR), 0, 1)]
[(4, 1), 2, 4, ((0, 0, 1, 0), (0, 1, 0, 1), (1, 0, 1, 0), (0, 0, 0, 1))]
>>> [scheme_fault(2, 2, 2, 1, 0, ()), scheme_fault(2, 2, 2, 1, False, (PAIR.wishes[0], ())), scheme_fault(2, 2, 2, 1, False, (PAIR.wishes[0], ((1, ((), ((2, 0),))),)))]
[('mixed',), ('wish', 1), ('coin', 1, 0)]
>>> [mean(open_scheme(5, 3, 2, 4, 1), 0), sums_of(all_scheme(5, 2, 2, 1, 0), 1, 0), exchanged_books(PAIR, (1, 0)) == PAIR]
[(4, 1), ((1, 0), (0, 1)), True]
>>> Scheme(2, 2, 2, 51, False, ())
raises InvalidScheme
"""

RIGHT = """
>>> PAIR = Scheme(2, 2, 2, 1, False, (((1, (((0, 1),), ((1, 1),))), (1, (((1, 1),), ((0, 1),)))), ((1, (((1, 0),), ((1, 1),))), (1, (((1, 1),), ((1, 0),))))))
>>> [is_right(PAIR), right_answer(PAIR)[1][0], read(PAIR, 0, 0, (1, 0)), read(PAIR, 1, 0, (1, 0)), wrong_pair(PAIR, 1, 1)]
[True, (((1, 1),), ((1, 1),)), (1,), (1,), None]
>>> ONE = Scheme(3, 1, 2, 1, False, (((1, (((1, 1),),)),), ((1, (((0, 2),),)),)))
>>> [right_answer(ONE)[:3], wrong_coins(ONE), is_right_answer(ONE, ("wrong", 0, 0, (2, 1))), is_right_answer(ONE, ("wrong", 1, 0, (2, 1))), read(ONE, 1, 0, (1,))]
[('wrong', 0, 0), ((0, 0),), True, False, (2,)]
>>> [is_wrong_pair(ONE, 0, 0, ((0, 0), (1, 2))), is_wrong_pair(ONE, 0, 0, ((0, 1), (0, 1))), is_wrong_pair(ONE, 1, 0, None)]
[True, False, True]
>>> TWICE = Scheme(3, 1, 1, 1, False, (((1, (((1,), (1,)),)),),))
>>> [is_right_answer(TWICE, ("right", ((((1, 0),),),))), is_right_answer(TWICE, ("right", ((((2, 2),),),))), read(TWICE, 0, 0, (2, 2))]
[True, True, (2,)]
>>> read(TWICE, 0, 0, (2, 1))
raises InvalidAnswers
>>> read(ONE, 0, 0, (1,))
raises Refused(('wrong', 0, 0))
"""

SIGHT = """
>>> LONE = Scheme(2, 2, 2, 1, False, (((1, ((), ((1, 0),))), (1, (((1, 1),), ((0, 1),)))), ((1, ((), ((0, 1),))), (1, (((1, 1),), ((1, 0),))))))
>>> [sight(LONE, 0, 1, (0,)), sight(LONE, 0, 0, (0, 1)), sight(LONE, 0, 0, ()), shares(LONE, 0, (1,))]
[(((1, 1),),), ((), ((1, 0),)), (), (((((0, 1),),), (1, 2)), ((((1, 0),),), (1, 2)))]
>>> [seen_answer(LONE, ((0,), (1,))), is_seen_answer(LONE, ((0, 1),), ("seen", (0, 1), 0, 1, ((), ((1, 0),)))), greatest_unseen(LONE)]
[('unseen',), True, ((0,), (1,))]
>>> MIXED = Scheme(3, 2, 2, 2, True, (((1, (((1, 0, 1, 0),), ((0, 1, 1, 0),))),), ((1, (((1, 0, 1, 0),), ((1, 0, 0, 1),))),)))
>>> [sight(MIXED, 0, 0, (0, 1)), sight(MIXED, 1, 0, (0, 1)), sight(MIXED, 0, 0, (1,)), is_unseen(MIXED, ((0,), (1,))), is_unseen(MIXED, ((0, 1),))]
[((1, 1), ((), ((1, 2),))), ((1, 1), (((1, 2),), ())), ((1,), ((), ())), True, False]
>>> sight(LONE, 0, 2, ())
raises InvalidNumber(2)
"""

TABLES = """
>>> [table_count(2, 2), table_at(2, 2, 0), table_at(2, 2, 1), table_at(2, 2, 2), table_at(2, 2, 5), number_of(2, ((1, 0), (1, 1)))]
[6, ((0, 1), (1, 0)), ((0, 1), (1, 1)), ((1, 0), (0, 1)), ((1, 1), (1, 0)), 3]
>>> [table_count(5, 2), table_at(5, 1, 2), number_of(5, ((0, 2), (3, 1)))]
[480, ((3,),), 31]
>>> C, D = ((1, 0), (0, 1), (1, 1)), ((1, 1), (1, 2), (2, 4))
>>> [alike_answer(5, 2, C, D[:2] + ((2, 3),)), is_alike_answer(5, 2, C, D, ("row", (1, 1, 4))), alike_answer(5, 2, C, D)[0]]
[('table', ((1, 1), (1, 2))), True, 'row']
>>> [leading_count(5, 2, ((1, 0),), ((3, 4),)), leading_count(5, 2, (), ()), leading_count(5, 2, ((1, 0),), ((0, 0),)), leading_count(5, 2, C, C)]
[20, 480, 0, 1]
>>> number_of(5, ((1, 2), (2, 4)))
raises Refused(('flat',))
"""

RUNS = """
>>> PAIR = Scheme(2, 2, 2, 1, False, (((1, (((0, 1),), ((1, 1),))), (1, (((1, 1),), ((0, 1),)))), ((1, (((1, 0),), ((1, 1),))), (1, (((1, 1),), ((1, 0),))))))
>>> [draws(PAIR, 0), coin_at(PAIR, 1, 1), asked_by(PAIR, 0, 1), answers_to(Library(2, ((1,), (1,))), asked_by(PAIR, 0, 1)), fetched(PAIR, 0, 1, (0, 1))]
[2, (1, ()), (((1, 1),), ((0, 1),)), (0, 1), (1,)]
>>> MIX = Scheme(3, 2, 2, 1, True, (((1, (((1, 1),), ((1, 2),))),), ((1, (((1, 1),), ((2, 1),))),)))
>>> [draws(MIX, 0), coin_at(MIX, 0, 2), asked_by(MIX, 0, 2), answers_to(Library(3, ((1,), (2,))), asked_by(MIX, 0, 2)), fetched(MIX, 0, 2, (1, 0))]
[4, (0, (((2,),), ((1,),))), (((2, 1),), ((2, 2),)), (1, 0), (1,)]
>>> [views(MIX, 0, (1,)) == views(MIX, 1, (1,)), views(MIX, 0, (1,))[0], views(MIX, 0, (0, 1))[1], views(MIX, 1, (0, 1))[1]]
[True, ((((1, 1),),), 1), ((((1, 2),), ((1, 1),)), 1), ((((1, 2),), ((2, 2),)), 1)]
>>> fetched(PAIR, 0, 2, (0, 1))
raises InvalidNumber(2)
"""

LEAST = """
>>> TRIANGLE, LONE = ((0, 1), (0, 2), (1, 2)), ((0,), (1,))
>>> [scale(3, TRIANGLE), scale(2, LONE), scale(3, ((0, 1),)), scale(2, ((0, 1),)), scale(4, ((0, 1, 2), (0, 3), (1, 3), (2, 3)))]
[(3, 2), (2, 1), None, (1, 1), (5, 3)]
>>> [least_mean(3, TRIANGLE, 2, 9), least_mean(2, LONE, 3, 1), least_mean(3, ((0, 1),), 4, 7), least_mean(2, ((0, 1),), 3, 4), least_rate(3, TRIANGLE, 2)]
[(15, 1), (7, 4), (7, 1), (12, 1), (3, 5)]
>>> [least_shown(3, TRIANGLE, 4), least_shown(3, ((0, 1),), 5), least_shown(2, ((0, 1),), 5), least_rate(1, (), 20)]
[((12, 1), (8, 1)), ((5, 1), (0, 1)), None, (1, 1)]
>>> [gap(3, TRIANGLE, 1, 4), gap(3, TRIANGLE, 2, 4), books_within(3, TRIANGLE, 4, (1, 1)), books_within(3, ((0, 1),), 100, (1, 7))]
[(8, 1), (16, 3), 7, 1]
>>> gap(2, ((0, 1),), 3, 4)
raises Refused(('all',))
"""

CHAIN = """
>>> LONE = Scheme(2, 2, 2, 1, False, (((1, ((), ((1, 0),))), (1, (((1, 1),), ((0, 1),)))), ((1, ((), ((0, 1),))), (1, (((1, 1),), ((1, 0),))))))
>>> chain_of(LONE, ((0,), (1,)), 0)
('chain', ((1, 1), (1, 1)), (((3, 2), (1, 2), ((1, 2), (1, 2))), ((1, 1), (0, 1), ((0, 1), (0, 1)))))
>>> [mean_rank(LONE, 0, (0, 1), ()), mean_rank(LONE, 1, (1,), (0,)), verdict(LONE, ((0,), (1,)))[:2], verdict(LONE, ((0,),)), verdict(LONE, ((0, 1),))[0]]
[(3, 2), (1, 2), ('costs', ((3, 2), (3, 2))), ('costs', ((3, 2), (3, 2)), ()), 'seen']
>>> BOTH = Scheme(2, 1, 2, 1, False, (((1, (((1, 1),),)),), ((1, (((1, 1),),)),)))
>>> [verdict(BOTH, ((0,),))[0], is_verdict(BOTH, ((0,),), ("wrong", 0, 0, (1, 1)))]
['wrong', True]
>>> chain_of(LONE, ((0,),), 0)
raises Refused(('free', 1))
"""


class TestExamples(unittest.TestCase):
    def test_fields(self):
        self.assertEqual(run_examples(self, "fetchunseen.base.fields", FIELDS), 7)

    def test_rows(self):
        self.assertEqual(run_examples(self, "fetchunseen.base.rows", ROWS), 5)

    def test_ranks(self):
        self.assertEqual(run_examples(self, "fetchunseen.base.ranks", RANKS), 6)

    def test_fractions(self):
        self.assertEqual(run_examples(self, "fetchunseen.base.fractions", FRACTIONS), 6)

    def test_lots(self):
        self.assertEqual(run_examples(self, "fetchunseen.lots.lots", LOTS), 5)

    def test_weights(self):
        self.assertEqual(run_examples(self, "fetchunseen.lots.weights", WEIGHTS), 4)

    def test_library(self):
        self.assertEqual(run_examples(self, "fetchunseen.books.library", LIBRARY), 4)

    def test_schemes(self):
        self.assertEqual(run_examples(self, "fetchunseen.scheme.schemes", SCHEMES), 5)

    def test_right(self):
        self.assertEqual(run_examples(self, "fetchunseen.scheme.right", RIGHT), 6)

    def test_sight(self):
        self.assertEqual(run_examples(self, "fetchunseen.scheme.sight", SIGHT), 4)

    def test_tables(self):
        self.assertEqual(run_examples(self, "fetchunseen.scheme.tables", TABLES), 5)

    def test_runs(self):
        self.assertEqual(run_examples(self, "fetchunseen.scheme.runs", RUNS), 4)

    def test_least(self):
        self.assertEqual(run_examples(self, "fetchunseen.bound.least", LEAST), 5)

    def test_chain(self):
        self.assertEqual(run_examples(self, "fetchunseen.bound.chain", CHAIN), 4)


if __name__ == "__main__":
    unittest.main()
