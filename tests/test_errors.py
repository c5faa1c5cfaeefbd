"""The classes of errors: what they derive from, and what they keep."""

import unittest

from fetchunseen import errors

OF_FETCH = (
    "InvalidRow", "InvalidRows", "InvalidFraction", "InvalidLots", "InvalidLibrary", "InvalidScheme",
    "InvalidShaded", "InvalidAnswers", "InvalidClaim", "InvalidOperation", "ParseError",
)
BASES = {
    "FetchError": ValueError, "InvalidNumber": IndexError, "UnknownName": KeyError, "TooMany": OverflowError,
    "NothingToUndo": LookupError, "Refused": ArithmeticError,
}
KEEPING = {
    "ParseError": "spot", "InvalidNumber": "given", "UnknownName": "wanted", "TooMany": "limit",
    "NothingToUndo": "wanted", "Refused": "reason",
}
ALL = OF_FETCH + tuple(BASES)


def made(name):
    return getattr(errors, name)("a message" if name not in KEEPING else 5)


class TestErrors(unittest.TestCase):
    def test_direct_bases(self):
        for name in OF_FETCH:
            self.assertEqual(getattr(errors, name).__bases__, (errors.FetchError,), name)
        for name, base in BASES.items():
            self.assertEqual(getattr(errors, name).__bases__, (base,), name)

    def test_caught_by_itself_and_what_it_derives_from(self):
        for name in ALL:
            own = getattr(errors, name)
            above = errors.FetchError if name in OF_FETCH else BASES[name]
            for kind in (own, above, Exception):
                with self.assertRaises(kind):
                    raise made(name)

    def test_caught_by_no_other(self):
        for name in ALL:
            for other in ALL:
                lets = other == name or (other == "FetchError" and name in OF_FETCH)
                caught = False
                try:
                    raise made(name)
                except getattr(errors, other):
                    caught = True
                except Exception:
                    pass
                self.assertEqual(caught, lets, (name, other))

    def test_caught_by_no_other_builtin(self):
        for name in ALL:
            first = ValueError if name in OF_FETCH else BASES[name]
            for kind in (ValueError, IndexError, KeyError, OverflowError, ZeroDivisionError, TypeError, RuntimeError):
                self.assertEqual(isinstance(made(name), kind), issubclass(first, kind), (name, kind))

    def test_keeps_any_value(self):
        kept = [None, True, 0, -7, 10 ** 99, "", "word", (), ("zero",), ("wrong", 0, 1), [1, [2]], {"a": 1}, object()]
        for name, attribute in KEEPING.items():
            for value in kept:
                error = getattr(errors, name)(value)
                self.assertIs(getattr(error, attribute), value)
                self.assertEqual(list(vars(error)), [attribute])
                with self.assertRaises(getattr(errors, name)) as caught:
                    raise error
                self.assertIs(getattr(caught.exception, attribute), value)

    def test_takes_just_one(self):
        for name in KEEPING:
            with self.assertRaises(TypeError):
                getattr(errors, name)()
            with self.assertRaises(TypeError):
                getattr(errors, name)(1, 2)

    def test_others_take_a_message(self):
        for name in ALL:
            if name not in KEEPING:
                self.assertEqual(getattr(errors, name)("what is wrong").args, ("what is wrong",))
                self.assertEqual(vars(getattr(errors, name)("what is wrong")), {})

    def test_no_others(self):
        defined = [name for name, value in vars(errors).items() if isinstance(value, type)]
        self.assertEqual(sorted(defined), sorted(ALL))
        for name in ALL:
            self.assertEqual(getattr(errors, name).__module__, "fetchunseen.errors")
            self.assertIsInstance(str(made(name)), str)


if __name__ == "__main__":
    unittest.main()
