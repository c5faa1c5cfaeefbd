"""Every example block of the document's sections, as it stands there."""

import unittest

from tests.support import run_examples

FIELDS = """
>>> [is_prime(9973), is_prime(1), is_prime(True), next_prime(24), next_prime(2), next_prime(0)]
[True, False, False, 29, 2, 2]
>>> [inverse(7, 3), power(7, 3, 6), power(7, 3, 10 ** 9), power(7, 0, 0), power(7, 0, 5)]
[5, 1, 4, 1, 0]
>>> [root(2), root(7), root(41), exponent_of(7, 3, 6), exponent_of(7, 2, 3), exponent_of(7, 0, 0), exponent_of(7, 5, 1)]
[1, 3, 6, 3, None, 1, 0]
>>> [letters_at(3, 4, 50), number_at(3, (1, 2, 1, 2)), letters_at(5, 0, 0), number_at(5, ()), letters_at(2, 3, 1)]
[(1, 2, 1, 2), 50, (), 0, (0, 0, 1)]
>>> inverse(5, 0)
raises Refused(('zero',))
>>> letters_at(3, 2, 9)
raises InvalidNumber(9)
>>> inverse(9, 2)
raises InvalidNumber(9)
"""

ROWS = """
>>> ROWS = ((1, 2, 3), (2, 4, 1))
>>> [dot(5, (1, 2, 3), (4, 1, 1)), plus(5, (1, 2, 3), (4, 4, 4)), multiple(5, (1, 2, 3), 3), rank(5, ROWS), basis(7, ROWS)]
[4, (0, 1, 2), (3, 1, 4), 1, ((1, 2, 0), (0, 0, 1))]
>>> [basis(5, ROWS), kernel(5, 3, ROWS), relations(5, ROWS), kernel(2, 2, ()), relations(5, ())]
[((1, 2, 3),), ((1, 0, 3), (0, 1, 1)), ((1, 2),), ((1, 0), (0, 1)), ()]
>>> [is_parts_or_look(5, ROWS, (3, 1, 4), ("parts", (1, 1))), parts_or_look(5, ROWS, (0, 0, 1))[0], is_parts_or_look(5, ROWS, (0, 0, 1), ("look", (1, 0, 3)))]
[True, 'look', True]
>>> [product(5, ((1, 2), (0, 1)), ((1, 1), (3, 0))), inverse_table(5, ((1, 2), (0, 1)))]
[((2, 1), (3, 0)), ((1, 3), (0, 1))]
>>> inverse_table(5, ((1, 2), (2, 4)))
raises Refused(('flat',))
"""

RANKS = """
>>> ROWS = ((1, 2, 0), (2, 4, 0), (0, 1, 1))
>>> is_rank_paper(5, ROWS, ("rank", (0, 2), ((1, 0), (2, 0), (0, 1)), ((1, 0, 0), (0, 0, 1))))
True
>>> [is_rank_paper(5, ROWS, ("rank", (0, 2), ((1, 0), (2, 0), (0, 1)), ((1, 1, 0), (0, 0, 1)))), rank_paper(5, ()), len(rank_paper(5, ROWS)[1])]
[False, ('rank', (), (), ()), 2]
>>> [rank_of(5, ROWS, (0, 1)), rank_beside(5, ROWS, (1,)), rank_beside(5, ROWS, (0, 1)), meet_of(2, ((1, 0),), ((1, 1),))]
[1, 2, 1, ()]
>>> [meet_of(5, ((1, 0, 0), (0, 1, 0)), ((2, 2, 0), (0, 0, 1))), both_ranks(5, ((1, 0, 0), (0, 1, 0)), ((2, 2, 0), (0, 0, 1)))]
[((1, 1, 0),), (2, 2, 3, 1)]
>>> cover_numbers(5, ((1, 0), (0, 1), (1, 1)), ((0, 1), (1, 2), (0, 2)), ((1, 2), (1, 2), (1, 2)))
((3, 1), 2)
>>> cover_numbers(5, ((1, 0),), ((0,),), ((1, 2),))
raises InvalidOperation
"""

FRACTIONS = """
>>> [fraction(6, -4), plus((1, 2), (1, 3)), less((1, 3), (1, 2)), times((2, 3), (-3, 4)), over((1, 2), (-3, 4)), compared((1, 2), (2, 3))]
[(-3, 2), (5, 6), (-1, 6), (-1, 2), (-2, 3), -1]
>>> [added(((1, 2), (1, 3), (1, 6))), added(()), mean(((1, (2, 1)), (3, (4, 1)))), mean(((2, (1, 2)), (1, (1, 5))))]
[(1, 1), (0, 1), (7, 2), (2, 5)]
>>> [powers_added((2, 3), 3), powers_added((1, 1), 5), powers_added((1, 2), 10), powers_added((-1, 1), 4), powers_added((0, 1), 7)]
[(19, 9), (5, 1), (1023, 512), (0, 1), (1, 1)]
>>> [is_fraction(some) for some in ((2, 4), (0, 1), (1, -2), (True, 1), (3, 1), (0, 2), 3)]
[False, True, False, False, True, False, False]
>>> fraction(0, -7)
(0, 1)
>>> over((1, 2), (0, 1))
raises Refused(('zero',))
"""

LOTS = """
>>> LOTS = ((), (0, 1), (0, 1, 3), (2,))
>>> [is_lots(5, LOTS), is_lots(3, LOTS), is_lots(5, LOTS[::-1]), is_lots(2, ((False,),)), is_lots(1, ())]
[True, False, False, False, True]
>>> [greatest_lots(5, LOTS), free_houses(5, LOTS), greatest_lots(2, ((),)), free_houses(2, ()), lone_lots(3)]
[((0, 1, 3), (2,)), (4,), ((),), (0, 1), ((0,), (1,), (2,))]
>>> [all_lots(4, 3), all_lots(2, 0), are_within(5, LOTS, ((0, 1, 2, 3),)), are_within(3, ((0, 1),), ((0,), (1,))), are_within(3, (), ())]
[((0, 1, 2), (0, 1, 3), (0, 2, 3), (1, 2, 3)), ((),), True, False, True]
>>> [exchanged_lots(3, ((0, 1), (2,)), (2, 0, 1)), spread_lots(3, ((0, 1), (1,), (1, 2)), (1, 0, 3)), spread_lots(2, ((0,), (0, 1)), (2, 0))]
[((0, 2), (1,)), ((), (0,), (1, 2, 3)), ((0, 1),)]
>>> all_lots(6, 3)
raises TooMany(12)
"""

WEIGHTS = """
>>> RING, PATH = ((0, 1), (0, 2), (1, 2)), ((0, 1), (1, 2), (2, 3))
>>> [weights_answer(3, RING), parts_of(3, RING), parts_of(4, PATH)]
[('weights', (3, 2), ((1, 2), (1, 2), (1, 2)), ((1, 2), (1, 2), (1, 2))), ((1, 1, 1), 2), ((0, 1, 0, 1), 1)]
>>> [is_weights(3, RING, ((1, 1), (0, 1), (0, 1))), is_weights(3, RING, ((1, 1), (1, 2), (0, 1))), is_cover(3, RING, ((1, 1), (1, 1), (0, 1))), is_cover(3, RING, ((1, 2), (1, 2), (0, 1)))]
[True, False, True, False]
>>> [weights_answer(3, ((0, 1),)), is_weights_answer(3, RING, ("free", 0)), weights_answer(2, ((0, 1),))[1], sum_of(((1, 2), (1, 3))), lot_sums_of(3, RING, ((1, 2), (1, 3), (0, 1)))]
[('free', 2), False, (1, 1), (5, 6), ((5, 6), (1, 2), (1, 3))]
>>> parts_of(2, ((0,),))
raises Refused(('free', 1))
"""


class TestExamples(unittest.TestCase):
    def test_fields(self):
        self.assertEqual(run_examples(self, "fetchunseen.base.fields", FIELDS), 7)

    def test_rows(self):
        self.assertEqual(run_examples(self, "fetchunseen.base.rows", ROWS), 5)

    def test_ranks(self):
        self.assertEqual(run_examples(self, "fetchunseen.base.ranks", RANKS), 6)

    def test_fractions(self):
        self.assertEqual(run_examples(self, "fetchunseen.base.fractions", FRACTIONS), 6)

    def test_lots(self):
        self.assertEqual(run_examples(self, "fetchunseen.lots.lots", LOTS), 5)

    def test_weights(self):
        self.assertEqual(run_examples(self, "fetchunseen.lots.weights", WEIGHTS), 4)


if __name__ == "__main__":
    unittest.main()
