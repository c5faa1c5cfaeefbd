"""The main statements, over all stages, and the examples of README.md."""

import builtins
import doctest
import itertools
import os
import random
import unittest
from fractions import Fraction

from fetchunseen.base.fields import next_prime
from fetchunseen.bound.chain import is_verdict, verdict
from fetchunseen.bound.least import least_mean, least_shown, scale
from fetchunseen.judge.claims import settled, takes
from fetchunseen.lots.lots import free_houses, lone_lots
from fetchunseen.lots.weights import parts_of, sum_of, weights_answer
from fetchunseen.make.lone import lone_scheme
from fetchunseen.make.lots import is_least, lots_scheme
from fetchunseen.scheme.right import is_right
from fetchunseen.scheme.schemes import Scheme, all_scheme, mean, open_scheme
from fetchunseen.scheme.sight import is_unseen, shares
from fetchunseen.scheme.tables import alike_answer
from fetchunseen.shade.shaded import is_right_shaded, is_unseen_shaded, shaded_scheme, shows_other
from fetchunseen.text.texts import read_scheme, scheme_text
from tests.shapes import LONE, MIX, PAIR, book_at, every_lot, own_sums, six, some_scheme
from tests.support import Errors, TOP, rebuilt
from tests.test_lots import every_lots, some_lots
from tests.test_sums import made as sums_made


def least_of(scheme, lots):
    """[0.13], straight from its words."""
    s = scale(scheme.houses, lots)
    return Fraction(scheme.length) if s is None else scheme.length * sum([Fraction(s[1], s[0]) ** at for at in range(scheme.books)])


class TestMain(Errors):
    def test_one_of_three(self):
        """[0.13]"""
        generator = random.Random(250)
        schemes = [LONE, PAIR, MIX, lone_scheme(2, 3, 2), lone_scheme(3, 2, 3), sums_made(2, 1, 2), sums_made(3, 2, 2), all_scheme(2, 3, 2, 2, 1), open_scheme(2, 3, 3, 2, 1)]
        schemes += [some_scheme(generator, 2, 2, 2, 1, at % 2 == 0) for at in range(60)]
        kinds = set()
        for scheme in schemes:
            for lots in [(), lone_lots(scheme.houses), (tuple(range(scheme.houses)),)] + [some_lots(generator, scheme.houses, 3) for _ in range(3)]:
                told = verdict(scheme, lots)
                kind = "wrong" if not is_right(scheme) else "seen" if not is_unseen(scheme, lots) else "costs"
                self.assertEqual(told[0], kind)
                kinds.add(kind)
                if kind == "costs":
                    self.assertEqual(told[1], tuple([mean(scheme, wish) for wish in range(scheme.books)]))
                    self.assertGreaterEqual(min([Fraction(*some) for some in told[1]]), least_of(scheme, lots))
                    self.assertEqual(is_least(scheme, lots), {Fraction(*some) for some in told[1]} == {least_of(scheme, lots)})
                claim, paper = settled(("fine", six(scheme), lots))
                self.assertEqual(claim[0], "fine" if kind == "costs" else "unfit")
                self.assertIs(takes(claim, paper), True)
                self.assertIs(is_verdict(scheme, lots, paper), True)
        self.assertEqual(kinds, {"wrong", "seen", "costs"})

    def test_met(self):
        """[0.14], [0.16], [0.17]: all lots of up to three houses, from the weights to the text of the scheme."""
        for houses in (1, 2, 3):
            for lots in every_lots(houses):
                answer = weights_answer(houses, lots)
                free = free_houses(houses, lots)
                self.assertEqual(answer[0] == "free", bool(free))
                prime = 11
                if not free:
                    self.assertEqual(sum_of(answer[2]), answer[1])
                    self.assertEqual(sum_of(answer[3]), answer[1])
                    parts, most = parts_of(houses, lots)
                    self.assertEqual(Fraction(sum(parts), most), Fraction(*answer[1]))
                    prime = next_prime(sum(parts) ** 2 + 1)
                scheme = lots_scheme(prime, houses, lots, 2)
                self.assertEqual({verdict(scheme, lots)[1]}, {(least_mean(houses, lots, 2, scheme.length),) * 2})
                self.assertEqual(read_scheme(scheme_text(scheme)), scheme)
                if not free and sum(parts) > most:
                    shaded = shaded_scheme(prime, houses, lots, 2)
                    self.assertEqual([is_right_shaded(shaded), is_unseen_shaded(shaded, lots), shows_other(shaded)], [True, True, False])
                    self.assertEqual(((shaded.sums[0], 1), (shaded.shared, 1)), least_shown(houses, lots, shaded.length))
                elif not free:
                    self.assertIsNone(least_shown(houses, lots, 1))

    def test_what_is_seen(self):
        """[0.15], for the schemes that are made: equal sights just if tables lead the parts into one another."""
        for shape in ((2, 1, 2), (3, 2, 2), (2, 1, 3), (3, 3, 1)):
            scheme = sums_made(*shape)
            for lot, (one, other) in itertools.product(every_lot(shape[0]), itertools.product(range(shape[2]), repeat=2)):
                led = []
                for book in range(scheme.books):
                    rows = [tuple([book_at(scheme.length, row, book) for row in own_sums(scheme, wish, 0, lot)]) for wish in (one, other)]
                    led.append(alike_answer(scheme.prime, scheme.length, *rows)[0] == "table")
                self.assertIs(shares(scheme, one, lot) == shares(scheme, other, lot), all(led))

    def test_not_true(self):
        """[0.18]"""
        self.assertEqual([[len(own_sums(LONE, 0, coin)) for coin in (0, 1)], mean(LONE, 0)], [[1, 2], (3, 2)])
        self.assertEqual([is_unseen(LONE, lone_lots(2)), is_unseen(LONE, ((0, 1),))], [True, False])
        plain = all_scheme(2, 2, 2, 1, 0)
        self.assertEqual([verdict(plain, lone_lots(2))[:2], verdict(LONE, lone_lots(2))[:2]], [("costs", ((2, 1),) * 2), ("costs", ((3, 2),) * 2)])
        twice = Scheme(2, 2, 2, 1, False, tuple([coins * 2 for coins in plain.wishes]))
        opened = open_scheme(2, 2, 2, 1, 1)
        self.assertEqual([len(opened.wishes[0]), mean(opened, 0), len(twice.wishes[0]), mean(twice, 0)], [1, (1, 1), 2, (2, 1)])
        self.assertEqual([verdict(some, ((0,),))[0] for some in (opened, twice)], ["costs", "costs"])

    def test_objects_stay(self):
        """[0.2]: what is made is made anew, and no call changes it."""
        scheme = lots_scheme(11, 3, ((0, 1), (0, 2), (1, 2)), 2)
        before = rebuilt(scheme)
        verdict(scheme, ((0, 1),))
        settled(("right", six(scheme)))
        scheme_text(scheme)
        self.assertEqual(six(scheme), six(before))

    def test_readme(self):
        with open(os.path.join(TOP, "README.md"), encoding="utf-8") as file:
            text = "\n".join([line for line in file.read().split("\n") if line != "```"])
        examples = doctest.DocTestParser().get_doctest(text, {}, "README.md", "README.md", 0)
        said = []
        # What an example shows is kept as a builtin, and other tests look at these.
        self.addCleanup(vars(builtins).pop, "_", None)
        result = doctest.DocTestRunner(verbose=False).run(examples, out=said.append)
        self.assertEqual((result.failed, said), (0, []))
        self.assertGreater(result.attempted, 25)


if __name__ == "__main__":
    unittest.main()
