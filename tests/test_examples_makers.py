"""Every example block of the document's sections from stage 15 on, as it stands there."""

import unittest

from tests.support import run_examples

CODES = """
>>> [power_rows(7, 4, 2), word_at(7, (3, 5), 4), letters_by(7, 2, (0, 3), (1, 2)), power_rows(3, 2, 4)]
[((1, 1), (1, 2), (1, 3), (1, 4)), (1, 6, 4, 2), (3, 5), ((1, 1, 1, 1), (1, 2, 1, 2))]
>>> [is_word(7, 2, (1, 6, 4, 2)), is_word(7, 2, (1, 6, 4, 3)), is_word(7, 3, (5, 0)), is_word(5, 2, (1, 2, 3, 4, 0))]
[True, False, True, False]
>>> [are_apart(7, power_rows(7, 4, 2), 2), are_apart(7, power_rows(7, 4, 2), 3), are_apart(5, ((1, 2), (0, 0)), 1), unlike_places(7, (1, 6, 4, 2), (1, 2, 3, 4))]
[True, False, False, (1, 2, 3)]
>>> power_rows(3, 3, 2)
raises Refused(('prime', 3))
"""

LONE = """
>>> lone_scheme(2, 2, 2).wishes[0]
((1, ((), ((1, 0),))), (1, (((1, 1),), ((0, 1),))))
>>> [keys(3, 2), asked_numbers(3, 3, 1, (2, 1), 0), key_of(3, 3, 1, 0, (2, 0, 1)), key_of(3, 3, 1, 1, (2, 0, 1)), lone_mean(3, 3), lone_mean(2, 1)]
[((0,), (1,), (2,)), (2, 0, 1), (2, 1), None, (26, 9), (1, 1)]
>>> [lone_read(5, 3, 3, (2, 1), (4, 1, 3)), lone_wish(3, 3, 0, 1, (2, 0, 1), (2, 1, 1)), lone_wish(3, 2, 0, 1, (0, 0), (1, 1))]
[(2, 4), 1, None]
>>> lone_scheme(7, 5, 4)
raises TooMany(64)
"""

SUMS = """
>>> [sum_counts(3, 2, 2), sum_counts(2, 1, 3), sum_counts(4, 2, 3), sum_counts(2, 2, 2), sum_counts(1, 1, 1)]
[(2, 1), (1, 1, 1), (4, 4, 4), (2, 0), (1,)]
>>> [sums_length(3, 2), sums_mean(3, 2, 2), sums_mean(2, 1, 3), sums_mean(2, 2, 2), sums_mean(6, 1, 4), sums_length(6, 4)]
[9, (15, 1), (14, 1), (8, 1), (1554, 1), 1296]
>>> SUMS = sums_scheme(11, 3, 2, 2)
>>> [SUMS.length, SUMS.is_mixed, len(SUMS.wishes[0]), mean(SUMS, 1), is_right(SUMS), is_unseen(SUMS, all_lots(3, 2)), is_unseen(SUMS, ((0, 1, 2),))]
[9, True, 1, (15, 1), True, True, False]
>>> [is_sums_scheme(11, 3, 2, 2, SUMS), is_sums_scheme(11, 3, 1, 2, SUMS), is_sums_scheme(5, 2, 1, 2, sums_scheme(5, 2, 1, 2)), sums_scheme(3, 1, 1, 2).length]
[True, False, True, 1]
>>> sums_scheme(7, 3, 2, 2)
raises Refused(('prime', 9))
>>> sums_scheme(11, 5, 2, 3)
raises TooMany(100)
"""

MAKE = """
>>> RING = ((0, 1), (0, 2), (1, 2))
>>> LEAST = lots_scheme(11, 3, RING, 2)
>>> [LEAST.length, mean(LEAST, 0), mean(LEAST, 1), is_least(LEAST, RING), is_least(LEAST, ((0, 1, 2),)), least_answer(11, 3, RING, 2)[0]]
[9, (15, 1), (15, 1), True, False, (5, 3)]
>>> OPEN = lots_scheme(2, 2, ((0,),), 3)
>>> [OPEN.length, mean(OPEN, 2), is_least(OPEN, ((0,),)), is_least(OPEN, ((0,), (1,))), lots_scheme(2, 3, ((0, 1, 2),), 4).length]
[1, (1, 1), True, False, 1]
>>> [joined_houses(open_scheme(5, 3, 2, 1, 2), (1, 2)).wishes[0], joined_houses(open_scheme(5, 1, 1, 2, 0), (0, 1)).wishes]
[((1, ((), ((1, 0),))),), (((1, ((), ((1, 0), (0, 1)))),),)]
>>> is_least_answer(11, 3, RING, 2, (LEAST, (5, 3)))
False
>>> lots_scheme(7, 3, RING, 2)
raises Refused(('prime', 9))
"""

SHADED = """
>>> D = ((1, 0), (0, 1))
>>> SHADE = Shaded(3, 2, 2, 1, 2, 1, tuple([((((row, D, (1,)),), ((last, D, (1,)),)), ((2, 1),)) for row, last in (((1, 0), (2, 0)), ((0, 1), (0, 2)))]))
>>> [sent_at(SHADE, 0, (1, 2)), run_at(SHADE, 0, (1, 2), (1,), Library(3, ((2,), (1,)))), SHADE.sums]
[(((2, 2),), ((0, 2),)), (((1,), (0,)), (2,)), (2, 2)]
>>> [is_right_shaded(SHADE), is_unseen_shaded(SHADE, ((0,), (1,))), is_unseen_shaded(SHADE, ((0, 1),)), shows_other(SHADE)]
[True, True, False, False]
>>> MADE = shaded_scheme(5, 3, ((0,), (1,), (2,)), 2)
>>> [MADE.length, MADE.sums, MADE.shared]
[2, (3, 3), 1]
>>> shaded_scheme(5, 2, ((0, 1),), 2)
raises Refused(('all',))
"""

CLAIMS = """
>>> LOTS, ROWS = ((0, 1), (0, 2), (1, 2)), ((1, 2), (2, 4))
>>> [is_claim(("rank", 5, ROWS, 1)), opposite(("rank", 5, ROWS, 1)), is_claim(("rank", 4, ROWS, 1)), is_claim(("made", 5, ROWS, (1, 2, 3)))]
[True, ('unrank', 5, ((1, 2), (2, 4)), 1), False, False]
>>> [takes(("rank", 5, ROWS, 1), ("rank", (0,), ((1,), (2,)), ((1, 0),))), takes(("unmade", 5, ROWS, (1, 1)), ("look", (3, 1))), takes(("unmade", 5, ROWS, (1, 2)), ("look", (3, 1)))]
[True, True, False]
>>> COVER = ("weights", (3, 2), ((1, 2),) * 3, ((1, 2),) * 3)
>>> [takes(("scale", 3, LOTS, (3, 2)), COVER), takes(("unscale", 3, LOTS, (2, 1)), COVER), takes(("least", 3, LOTS, 2, 9, (15, 1)), COVER), takes(("unscale", 3, ((0,),), (1, 1)), ("free", 2))]
[True, True, True, True]
>>> COIN = (1, (((1, 0), (0, 1)), ()))
>>> ASKS = (2, 2, 2, 1, False, ((COIN,), (COIN,)))
>>> [takes(("unseen", ASKS, ((0, 1),)), ("unseen",)), takes(("wrong", ASKS), ("wrong", 0, 0, (1, 0))), settled(("seen", ASKS, ((0,),)))[0][0]]
[True, False, 'unseen']
>>> opposite(("right", 7))
raises InvalidClaim
"""

TEXTS = r"""
>>> [library_text(Library(5, ((1, 0), (4, 2)))), lots_text(3, ((), (0, 2))), scheme_text(open_scheme(2, 2, 1, 2, 1))]
['library 5\nbook 1 0\nbook 4 2\nend\n', 'lots 3\nlot\nlot 0 2\nend\n', 'scheme plain 2 2 1 2\nwish 0\ncoin 1\nsum 1 1 0\nsum 1 0 1\nend\n']
>>> [read_library("library 7\nbook 6\nend\n") == Library(7, ((6,),)), read_lots("lots 6\nend\n"), read_lots("lots 2\nlot\nlot 0 1\nlot 1\nend\n")]
[True, (6, ()), (2, ((), (0, 1), (1,)))]
>>> NONE = read_scheme("scheme mixed 3 2 1 1\nwish 0\ncoin 4\ncoin 1\nsum 1 2\nsum 1 2\nend\n")
>>> [NONE.wishes, NONE.is_mixed, read_scheme(scheme_text(NONE)) == NONE]
[(((4, ((), ())), (1, ((), ((2,), (2,))))),), True, True]
>>> read_lots("lots 2\nlot 1\nlot 0\nend\n")
raises ParseError(2)
>>> read_library("library 5\nend\n")
raises ParseError(1)
>>> read_library("library 5\nbook 1\nend")
raises ParseError(2)
"""

DESK = """
>>> LONE = Scheme(2, 2, 2, 1, False, (((1, ((), ((1, 0),))), (1, (((1, 1),), ((0, 1),)))), ((1, ((), ((0, 1),))), (1, (((1, 1),), ((1, 0),))))))
>>> desk = Desk(2, 2, 2, 1)
>>> desk.put_lot((0,))
>>> desk.put_lot((1,))
>>> [desk.put_letter(1, 0, 1), desk.costs(1), desk.set_scheme(LONE), desk.costs(1), desk.lots, str(desk)]
[None, ((2, 1), (3, 2)), None, ((3, 2), (3, 2)), ((0,), (1,)), 'desk of 2 books of 1 letters at 2 houses, 4 calls']
>>> [desk.fetch(1, 1), desk.fetch(1, 0), desk.sent(0), desk.sent(1), desk.account()]
[((1,), 2), ((1,), 1), (((1, 1),), ()), (((1, 0),), ((0, 1),)), (2, 3)]
>>> [desk.put_lot((0, 1)), desk.costs(1), desk.undo(calls=2), desk.costs(1), desk.account(), desk.calls]
[None, ((2, 1), (2, 1)), None, ((3, 2), (3, 2)), (1, 2), 5]
>>> desk.undo(calls=6)
raises NothingToUndo(6)
"""


class TestExamples(unittest.TestCase):
    def test_codes(self):
        self.assertEqual(run_examples(self, "fetchunseen.make.codes", CODES), 4)

    def test_lone(self):
        self.assertEqual(run_examples(self, "fetchunseen.make.lone", LONE), 4)

    def test_sums(self):
        self.assertEqual(run_examples(self, "fetchunseen.make.sums", SUMS), 6)

    def test_lots(self):
        self.assertEqual(run_examples(self, "fetchunseen.make.lots", MAKE), 5)

    def test_shaded(self):
        self.assertEqual(run_examples(self, "fetchunseen.shade.shaded", SHADED), 4)

    def test_claims(self):
        self.assertEqual(run_examples(self, "fetchunseen.judge.claims", CLAIMS), 5)

    def test_texts(self):
        self.assertEqual(run_examples(self, "fetchunseen.text.texts", TEXTS), 6)

    def test_desk(self):
        self.assertEqual(run_examples(self, "fetchunseen.house.desk", DESK), 4)


if __name__ == "__main__":
    unittest.main()
