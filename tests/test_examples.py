"""Every example block of the document's sections, as it stands there."""

import unittest

from tests.support import run_examples

FIELDS = """
>>> [is_prime(9973), is_prime(1), is_prime(True), next_prime(24), next_prime(2), next_prime(0)]
[True, False, False, 29, 2, 2]
>>> [inverse(7, 3), power(7, 3, 6), power(7, 3, 10 ** 9), power(7, 0, 0), power(7, 0, 5)]
[5, 1, 4, 1, 0]
>>> [root(2), root(7), root(41), exponent_of(7, 3, 6), exponent_of(7, 2, 3), exponent_of(7, 0, 0), exponent_of(7, 5, 1)]
[1, 3, 6, 3, None, 1, 0]
>>> [letters_at(3, 4, 50), number_at(3, (1, 2, 1, 2)), letters_at(5, 0, 0), number_at(5, ()), letters_at(2, 3, 1)]
[(1, 2, 1, 2), 50, (), 0, (0, 0, 1)]
>>> inverse(5, 0)
raises Refused(('zero',))
>>> letters_at(3, 2, 9)
raises InvalidNumber(9)
>>> inverse(9, 2)
raises InvalidNumber(9)
"""

ROWS = """
>>> ROWS = ((1, 2, 3), (2, 4, 1))
>>> [dot(5, (1, 2, 3), (4, 1, 1)), plus(5, (1, 2, 3), (4, 4, 4)), multiple(5, (1, 2, 3), 3), rank(5, ROWS), basis(7, ROWS)]
[4, (0, 1, 2), (3, 1, 4), 1, ((1, 2, 0), (0, 0, 1))]
>>> [basis(5, ROWS), kernel(5, 3, ROWS), relations(5, ROWS), kernel(2, 2, ()), relations(5, ())]
[((1, 2, 3),), ((1, 0, 3), (0, 1, 1)), ((1, 2),), ((1, 0), (0, 1)), ()]
>>> [is_parts_or_look(5, ROWS, (3, 1, 4), ("parts", (1, 1))), parts_or_look(5, ROWS, (0, 0, 1))[0], is_parts_or_look(5, ROWS, (0, 0, 1), ("look", (1, 0, 3)))]
[True, 'look', True]
>>> [product(5, ((1, 2), (0, 1)), ((1, 1), (3, 0))), inverse_table(5, ((1, 2), (0, 1)))]
[((2, 1), (3, 0)), ((1, 3), (0, 1))]
>>> inverse_table(5, ((1, 2), (2, 4)))
raises Refused(('flat',))
"""


class TestExamples(unittest.TestCase):
    def test_fields(self):
        self.assertEqual(run_examples(self, "fetchunseen.base.fields", FIELDS), 7)

    def test_rows(self):
        self.assertEqual(run_examples(self, "fetchunseen.base.rows", ROWS), 5)


if __name__ == "__main__":
    unittest.main()
