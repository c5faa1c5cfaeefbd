"""Stage 21: texts."""

import itertools
import random
import re
import unittest

from fetchunseen.books.library import Library
from fetchunseen.errors import ParseError
from fetchunseen.lots.lots import all_lots
from fetchunseen.make.lone import lone_scheme
from fetchunseen.make.sums import sums_scheme
from fetchunseen.scheme.schemes import Scheme, all_scheme, open_scheme
from fetchunseen.text.texts import library_text, lots_text, read_library, read_lots, read_scheme, scheme_text
from tests.shapes import LONE, MIX, MIXED, PAIR, TORN, all_libraries, every_lot, great_scheme, six, some_scheme
from tests.support import Errors, FAR, KINDS, LIBRARY, LOTS, OPERATION, SCHEME, beyond, number, others_than, raised, shown, some_rows
from tests.test_faults import OWN_PRIMES
from tests.test_lots import every_lots, no_lots, some_lots, thirteen

NUMBER = "(?:0|[1-9][0-9]*)"
SCHEMES = [PAIR, LONE, MIX, MIXED, TORN, open_scheme(2, 1, 1, 1, 0), all_scheme(7, 3, 2, 2, 1), lone_scheme(3, 3, 2), sums_scheme(5, 2, 1, 2)]


def own_numbers(pattern, line):
    """The numbers of a line of this form, or None."""
    if not re.fullmatch(pattern, line):
        return None
    # Beyond all bounds, longer ones are alike.
    return [int(word[:50]) for word in line.split(" ") if word.isdigit()]


class OwnLibrary:
    """What is read so far of the text of a library."""

    def __init__(self):
        self.prime, self.books, self.done = None, [], False

    def takes(self, line):
        if self.done:
            return False
        if self.prime is None:
            told = own_numbers(f"library {NUMBER}", line)
            self.prime = told[0] if told else None
            return told is not None and told[0] in OWN_PRIMES
        if line == "end":
            self.done = True
            return len(self.books) > 0
        told = own_numbers(f"book( {NUMBER})+", line)
        if told is None or max(told) >= self.prime or len(self.books) == 4:
            return False
        self.books.append(told)
        return len(told) == len(self.books[0]) and sum([len(book) for book in self.books]) <= 100

    def value(self):
        return Library(self.prime, tuple([tuple(book) for book in self.books]))


class OwnLots:
    def __init__(self):
        self.houses, self.lots, self.done = None, [], False

    def takes(self, line):
        if self.done:
            return False
        if self.houses is None:
            told = own_numbers(f"lots {NUMBER}", line)
            self.houses = told[0] if told else None
            return told is not None and 1 <= told[0] <= 6
        if line == "end":
            self.done = True
            return True
        told = own_numbers(f"lot( {NUMBER})*", line)
        if told is None or len(self.lots) == 12 or told != sorted(set(told)) or any([house >= self.houses for house in told]):
            return False
        self.lots.append(tuple(told))
        return len(self.lots) == 1 or self.lots[-2] < self.lots[-1]

    def value(self):
        return (self.houses, tuple(self.lots))


class OwnScheme:
    def __init__(self):
        self.head, self.wishes, self.done = None, [], False

    def takes(self, line):
        if self.done:
            return False
        if self.head is None:
            return self.takes_head(line)
        if line == "end":
            self.done = True
            return len(self.wishes) == self.head[2] and len(self.wishes[-1]) > 0
        return {"wish": self.takes_wish, "coin": self.takes_coin, "sum": self.takes_sum}.get(line.split(" ")[0], lambda some: False)(line)

    def takes_head(self, line):
        told = own_numbers(f"scheme (plain|mixed) {NUMBER} {NUMBER} {NUMBER} {NUMBER}", line)
        if told is None:
            return False
        self.head, self.mixed = told, "mixed" in line
        prime, houses, books, length = told
        return prime in OWN_PRIMES and 1 <= houses <= 6 and 1 <= books <= 4 and 1 <= length <= 100 and books * length <= 100

    def takes_wish(self, line):
        told = own_numbers(f"wish {NUMBER}", line)
        if told != [len(self.wishes)] or told[0] >= self.head[2] or (self.wishes and not self.wishes[-1]):
            return False
        self.wishes.append([])
        return True

    def takes_coin(self, line):
        told = own_numbers(f"coin {NUMBER}", line)
        if told is None or not self.wishes or len(self.wishes[-1]) == 64:
            return False
        self.wishes[-1].append((told[0], []))
        return 1 <= told[0] <= 10 ** 9

    def takes_sum(self, line):
        told = own_numbers(f"sum {NUMBER}( {NUMBER})+", line)
        if told is None or not self.wishes or not self.wishes[-1] or len(told) != 1 + self.head[2] * self.head[3]:
            return False
        sums = self.wishes[-1][-1][1]
        if told[0] >= self.head[1] or max(told[1:]) >= self.head[0] or (sums and told[0] < sums[-1][0]):
            return False
        sums.append((told[0], tuple(told[1:])))
        return len(sums) <= 100 and sum([len(some) for coins in self.wishes for _, some in coins]) <= 400

    def value(self):
        wishes = []
        for coins in self.wishes:
            wishes.append(tuple([(times, tuple([tuple([row for at, row in sums if at == house]) for house in range(self.head[1])])) for times, sums in coins]))
        return Scheme(*self.head, self.mixed, tuple(wishes))


READERS = {read_library: OwnLibrary, read_lots: OwnLots, read_scheme: OwnScheme}


def own_read(function, text):
    """The value of the text, or the number of the first line that cannot stand."""
    own, lines = READERS[function](), text.split("\n")
    for at, line in enumerate(lines[:-1]):
        if not own.takes(line):
            return at
    return own.value() if own.done and lines[-1] == "" else len(lines) - 1


def own_library_text(library):
    rows = [" ".join(["book"] + [str(letter) for letter in book]) for book in library.books]
    return "".join([line + "\n" for line in [f"library {library.prime}"] + rows + ["end"]])


def own_lots_text(houses, lots):
    rows = [" ".join(["lot"] + [str(house) for house in lot]) for lot in lots]
    return "".join([line + "\n" for line in [f"lots {houses}"] + rows + ["end"]])


def own_scheme_text(scheme):
    kind = "mixed" if scheme.is_mixed else "plain"
    rows = [f"scheme {kind} {scheme.prime} {scheme.houses} {scheme.books} {scheme.length}"]
    for wish, coins in enumerate(scheme.wishes):
        rows.append(f"wish {wish}")
        for times, asks in coins:
            rows.append(f"coin {times}")
            for house, sums in enumerate(asks):
                rows.extend([" ".join([str(some) for some in ("sum", house) + row]) for row in sums])
    return "".join([line + "\n" for line in rows + ["end"]])


class Texts(Errors):
    def check_text(self, function, text):
        """Read as the test itself reads it; returns whether it is read, or the line that is refused."""
        wanted = own_read(function, text)
        if type(wanted) is int:
            error = raised(function, (text,))
            self.assertIs(type(error), ParseError, text[:400])
            self.assertIs(type(error.spot), int)
            self.assertEqual(error.spot, wanted, text[:400])
            return wanted
        self.assertEqual(shown(function(text)), shown(wanted))
        return None


def texts():
    """Pairs of a reader and a text that it reads."""
    generator = random.Random(230)
    found = [(read_library, library_text(Library(*some))) for some in (
        (5, ((1, 0), (4, 2))), (2, ((0,),)), (9973, ((9972, 0, 12),) * 4), (11, ((10, 0, 1, 5, 7),)))]
    found += [(read_lots, lots_text(*some)) for some in ((3, ((), (0, 2))), (1, ()), (6, all_lots(6, 5)), (4, ((0, 1), (0, 1, 2), (0, 2), (3,))), (1, ((), (0,))))]
    found += [(read_scheme, scheme_text(scheme)) for scheme in SCHEMES[:6]]
    found += [(read_scheme, scheme_text(some_scheme(generator, 3, 2, 2, 1, at == 1))) for at in range(3)]
    return found


class TestThereAndBack(Texts):
    """[21.1] to [21.4]"""

    def test_libraries(self):
        seen = {}
        some = [library for prime, books, length in ((2, 1, 1), (2, 2, 2), (3, 1, 3), (3, 3, 1), (5, 2, 1), (2, 4, 1), (11, 1, 1))
                for library in all_libraries(prime, books, length)]
        generator = random.Random(231)
        some += [Library(9973, some_rows(generator, 9973, books, length)) for books, length in ((1, 100), (2, 50), (3, 33), (4, 25))]
        for library in some:
            text = library_text(library)
            self.assertEqual(text, own_library_text(library))
            self.assertEqual(shown(read_library(text)), shown(library))
            self.assertEqual(seen.setdefault(text, library), library)
        self.assertEqual(len(seen), len(some))

    def test_lots(self):
        generator = random.Random(232)
        some = [(houses, lots) for houses in (1, 2, 3) for lots in every_lots(houses)]
        some += [(houses, some_lots(generator, houses, many)) for houses in (4, 5, 6) for many in range(13) for _ in range(5)]
        seen = set()
        for houses, lots in some:
            text = lots_text(houses, lots)
            self.assertEqual(text, own_lots_text(houses, lots))
            self.assertEqual(shown(read_lots(text)), shown((houses, lots)))
            seen.add(text)
        self.assertEqual(len(seen), len(set(some)))

    def test_schemes(self):
        generator = random.Random(233)
        some = list(SCHEMES)
        for _ in range(200):
            shape = (generator.choice([2, 3, 11, 9973]), generator.randrange(1, 7), generator.randrange(1, 5), generator.randrange(1, 4))
            some.append(some_scheme(generator, *shape, generator.randrange(2) == 1))
        seen = {}
        for scheme in some:
            text = scheme_text(scheme)
            self.assertEqual(text, own_scheme_text(scheme))
            self.assertEqual(shown(read_scheme(text)), shown(scheme))
            self.assertEqual(seen.setdefault(text, scheme), scheme)

    def test_all_of_one_coin(self):
        sums = [()] + [(row,) for row in itertools.product((0, 1), repeat=1)] + [((0,), (1,))]
        texts_seen = set()
        for asks, times, mixed in itertools.product(itertools.product(sums, repeat=2), (1, 2), (True, False)):
            scheme = Scheme(2, 2, 1, 1, mixed, (((times, asks),),))
            texts_seen.add(scheme_text(scheme))
            self.assertEqual(shown(read_scheme(scheme_text(scheme))), shown(scheme))
        self.assertEqual(len(texts_seen), 64)

    def test_great(self):
        generator = random.Random(234)
        for books, length, mixed in ((4, 25, True), (1, 100, False), (2, 50, True)):
            scheme = great_scheme(generator, 9973, books, length, mixed)
            text = self.check_within(3, scheme_text, scheme)
            self.assertEqual(text, own_scheme_text(scheme))
            self.assertEqual(self.check_within(3, read_scheme, text), scheme)
        most = Scheme(9973, 6, 1, 100, True, (((10 ** 9, ((((9972,) * 100),) * 100,) + ((),) * 5),) * 4 + ((10 ** 9, ((),) * 6),) * 60,))
        self.assertEqual(read_scheme(scheme_text(most)), most)
        self.assertGreater(len(scheme_text(most)), 200000)

    def test_errors(self):
        self.check_arguments(library_text, (Library(5, ((1, 0),)),), [(LIBRARY, others_than(Library) + [((1, 0),)])])
        self.check_arguments(lots_text, (2, ((0,),)), [(number, beyond(7) + [0]), (LOTS, no_lots(2) + [thirteen()])])
        self.check_arguments(scheme_text, (LONE,), [(SCHEME, others_than(Scheme) + [six(LONE)])])


class TestRefused(Texts):
    """[21.5]"""

    def test_lines(self):
        """A line put in, left out, doubled, exchanged, cut; what is behind does not matter."""
        generator = random.Random(235)
        strange = ["", "end", "book 0", "book 1 0", "lot", "lot 0", "lot 1", "wish 0", "wish 1", "coin 1", "coin 0", "sum 0 1", "sum 1 0 1", "library 5", "lots 2",
                   "scheme plain 2 2 2 1", "what", "End", "sum", "coin", "wish", "book", "lots", "library", "scheme"]
        refused = set()
        for function, text in texts():
            lines = text.split("\n")[:-1]
            for at in range(len(lines) + 1):
                made = [lines[:at] + [line] + lines[at:] for line in strange]
                made += [lines[:at] + [line] + lines[at + 1:] for line in strange]
                made += [lines[:at] + lines[at + 1:], lines[:at] + lines[at:at + 1] * 2 + lines[at + 1:], lines[:at], lines[:at] + lines[at + 1:at + 2] + lines[at:at + 1] + lines[at + 2:]]
                for some in made:
                    refused.add(self.check_text(function, "".join([line + "\n" for line in some])))
                    self.check_text(function, "\n".join(some))
                cut = generator.choice(made)
                self.check_text(function, "".join([line + "\n" for line in cut + generator.sample(strange, 3)]))
        self.assertGreater(len(refused), 12)

    def test_first_line_alone_counts(self):
        """Two faults at once: the first line is told, whatever comes behind it."""
        generator = random.Random(236)
        for function, text in texts():
            lines = text.split("\n")[:-1]
            for first, second in itertools.combinations(range(len(lines)), 2):
                bad = [" ".join(lines[at].split(" ")[:-1] + [generator.choice(["x", "-1", "07", "99999", "", "1 1 1"])]) for at in (first, second)]
                some = lines[:first] + [bad[0]] + lines[first + 1:second] + [bad[1]] + lines[second + 1:]
                one = self.check_text(function, "".join([line + "\n" for line in some]))
                for rest in ("", "\n", "end\n", "\n\n\n", "what\nend", " "):
                    ahead = "".join([line + "\n" for line in some[:first + 1]])
                    if one == first:
                        self.assertEqual(self.check_text(function, ahead + rest), first)

    def test_signs(self):
        """Each sign changed, left out, or doubled; a blank put in."""
        for function, text in texts()[::2]:
            for at in range(min(len(text), 90)):
                for sign in (" ", "0", "1", "9", "\n", "a", "-", "+", ".", "", text[at] * 2, " " + text[at], text[at] + " ", "0" + text[at]):
                    self.check_text(function, text[:at] + sign + text[at + 1:])
            self.check_text(function, text + text)
            self.check_text(function, " " + text)
            self.check_text(function, text + " ")
            self.check_text(function, text + "\n")
            self.check_text(function, text[:-1])

    def test_ends(self):
        for function, text in texts():
            lines = text.split("\n")[:-1]
            self.assertEqual(self.check_text(function, text[:-1]), len(lines) - 1)
            self.assertEqual(self.check_text(function, text[:-4]), len(lines) - 1)
            self.assertEqual(self.check_text(function, text + "end"), len(lines))
            self.assertEqual(self.check_text(function, text + "end\n"), len(lines))
            self.assertEqual(self.check_text(function, text + "\n"), len(lines))
            self.assertEqual(self.check_text(function, ""), 0)
            self.assertEqual(self.check_text(function, "\n"), 0)
            self.assertEqual(self.check_text(function, "end\n"), 0)
            self.assertEqual(self.check_text(function, lines[0]), 0)
            for at in range(len(text)):
                self.check_text(function, text[:at])

    def test_numbers(self):
        for prime, line in ((2, None), (9973, None), (9979, 0), (1, 0), (0, 0), (4, 0), ("02", 0), ("+2", 0), ("-2", 0), ("2.0", 0), ("", 0), (10 ** 60 + 7, 0), ("9" * 5000, 0),
                            (" 5", 0), ("5 ", 0), ("1e1", 0), ("0x5", 0), ("1_1", 0), ("5 5", 0)):
            self.assertEqual(self.check_text(read_library, f"library {prime}\nbook 0\nend\n"), line)
        for letter, line in ((0, None), (1, None), (4, None), (5, 1), (6, 1), ("00", 1), ("01", 1), ("-1", 1), ("a", 1), ("9" * 6000, 1), (10 ** 59, 1), ("0" * 5000, 1)):
            self.assertEqual(self.check_text(read_library, f"library 5\nbook {letter}\nend\n"), line)
            self.assertEqual(self.check_text(read_library, f"library 5\nbook 1 {letter} 0\nend\n"), line)
        for houses, line in ((0, 0), (1, None), (6, None), (7, 0), (60, 0), ("06", 0), ("", 0), ("6 6", 0)):
            self.assertEqual(self.check_text(read_lots, f"lots {houses}\nend\n"), line)
        for times, line in ((0, 2), (1, None), (10 ** 9, None), (10 ** 9 + 1, 2), (10 ** 10, 2), ("01", 2), ("9" * 5000, 2), ("1 1", 2), ("", 2)):
            self.assertEqual(self.check_text(read_scheme, f"scheme plain 2 2 1 1\nwish 0\ncoin {times}\nend\n"), line)
        for head, line in (("plain 2 6 4 25", 1), ("plain 2 6 4 26", 0), ("plain 2 7 1 1", 0), ("plain 2 0 1 1", 0), ("mixed 2 1 5 1", 0), ("mixed 2 1 0 1", 0), ("mixed 2 1 1 0", 0),
                           ("mixed 2 1 1 100", 1), ("mixed 2 1 1 101", 0), ("mixed 2 1 3 33", 1), ("mixed 2 1 3 34", 0), ("plain 4 1 1 1", 0), ("Plain 2 1 1 1", 0), ("2 1 1 1", 0),
                           ("plain 2 1 1", 0), ("plain 2 1 1 1 1", 0), ("plain mixed 2 1 1 1", 0), ("both 2 1 1 1", 0), ("plain 2 1 1 01", 0), ("", 0), ("mixed", 0)):
            self.assertEqual(self.check_text(read_scheme, f"scheme {head}\n"), line)

    def test_bounds(self):
        fifty, hundred = "book" + " 1" * 50 + "\n", "book" + " 1" * 100 + "\n"
        for books, line in ((fifty * 2, None), (fifty * 3, 3), (hundred, None), (hundred * 2, 2), ("book" + " 1" * 101 + "\n", 1), ("book 0\n" * 4, None), ("book 0\n" * 5, 5),
                            (("book" + " 1" * 33 + "\n") * 3, None), (("book" + " 1" * 34 + "\n") * 3, 3), (("book" + " 1" * 25 + "\n") * 4, None), (("book" + " 1" * 26 + "\n") * 4, 4),
                            ("book 0 1\nbook 0\n", 2), ("book 0\nbook 0 1\n", 2), ("book\n", 1), ("", 1), ("book 0\nbook\n", 2)):
            self.assertEqual(self.check_text(read_library, f"library 2\n{books}end\n"), line)
        for many, line in ((11, None), (12, None), (13, 13), (14, 13)):
            lots = every_lot(6)[1:many + 1]
            text = "lots 6\n" + "".join(["lot " + " ".join([str(house) for house in lot]) + "\n" for lot in lots]) + "end\n"
            self.assertEqual(self.check_text(read_lots, text), line)
        for lines, line in (("lot 1\nlot 0\n", 2), ("lot 0\nlot\n", 2), ("lot\nlot\n", 2), ("lot 0 1\nlot 0\n", 2), ("lot 1 0\n", 1), ("lot 0 0\n", 1), ("lot 2\n", 1), ("lot 0\nlot 0 1\nlot 1\n", None)):
            self.assertEqual(self.check_text(read_lots, f"lots 2\n{lines}end\n"), line)

    def test_bounds_of_schemes(self):
        head, sums = "scheme plain 2 2 1 1\nwish 0\n", "sum 1 0\n" * 100
        for lines, line in (("coin 1\n" * 64, None), ("coin 1\n" * 65, 66), ("coin 1\n" + sums, None), ("coin 1\n" + sums + "sum 1 0\n", 103), (("coin 1\n" + sums) * 4, None),
                            (("coin 1\n" + sums) * 4 + "coin 1\n", None), (("coin 1\n" + sums) * 4 + "coin 1\nsum 1 0\n", 407), (("coin 1\n" + sums) * 3 + ("coin 1\n" + "sum 0 1\n" * 50) * 2, None),
                            (("coin 1\n" + sums) * 3 + ("coin 1\n" + "sum 0 1\n" * 50) * 2 + "sum 1 1\n", 407), ("", 2), ("sum 0 0\n", 2), ("coin 1\nsum 0 0 0\n", 3), ("coin 1\nsum 0\n", 3),
                            ("coin 1\nsum\n", 3), ("coin 1\nsum 1 0\nsum 0 0\n", 4), ("coin 1\nsum 1 0\ncoin 2\nsum 0 0\n", None), ("coin 1\nsum 2 0\n", 3), ("coin 1\nsum 0 2\n", 3),
                            ("coin 1\nwish 1\n", 3), ("wish 0\n", 2), ("coin 1\nsum 1 0\nsum 1 0\n", None)):
            self.assertEqual(self.check_text(read_scheme, f"{head}{lines}end\n"), line)
        two = "scheme mixed 2 1 2 1\n"
        for lines, line in (("wish 0\ncoin 1\nwish 1\ncoin 1\n", None), ("wish 0\ncoin 1\n", 3), ("wish 0\ncoin 1\nwish 1\n", 4), ("wish 0\nwish 1\ncoin 1\n", 2), ("wish 1\ncoin 1\n", 1), ("", 1),
                            ("wish 0\ncoin 1\nwish 0\ncoin 1\n", 3), ("wish 0\ncoin 1\nwish 2\n", 3), ("wish 0\ncoin 1\nwish 1\ncoin 1\nwish 2\n", 5), ("coin 1\n", 1), ("wish 00\n", 1),
                            ("wish 0\ncoin 1\nwish 1\nsum 0 1 1\n", 4), ("wish 0\ncoin 1\nsum 0 1 1\nwish 1\ncoin 1\nsum 0 1 0\n", None), ("wish 0 \n", 1), ("wish  0\n", 1)):
            self.assertEqual(self.check_text(read_scheme, f"{two}{lines}end\n"), line)
        full = "coin 1\n" + "sum 0 0 0\n" * 100
        self.assertIsNone(self.check_text(read_scheme, two + ("wish 0\n" + full * 2) + ("wish 1\n" + full * 2) + "end\n"))
        self.assertEqual(self.check_text(read_scheme, two + ("wish 0\n" + full * 3) + ("wish 1\n" + full) + "coin 1\nsum 0 0 0\nend\n"), 408)

    def test_no_texts(self):
        good = "library 5\nbook 1\nend\n"
        values = [value for value in KINDS if not isinstance(value, str)] + FAR + [
            good.encode(), [good], (good,), good.replace(" ", "\t"), good.replace("\n", "\r\n"), good + "\r", good + "\x00", good + "\x7f", good + "\x1f", good + "\u20ac",
            good.replace("5", "\u0665"), good.replace("1", "\u00b9"), good.replace(" ", "\u00a0"), good + "\x0b", "\n" * 300001, good * 20000, "x" * 300001, "\ud800"]
        for function in READERS:
            for value in values:
                if isinstance(value, (str, bytes)):
                    self.check_error(function, (value,), OPERATION(None))
            self.check_arguments(function, (texts()[{read_library: 0, read_lots: 4, read_scheme: 9}[function]][1],), [(OPERATION, [value for value in values if not isinstance(value, bytes)])])

    def test_all_signs(self):
        for function in READERS:
            for code in range(256):
                text = "lots 2\n" + chr(code)
                if 32 <= code <= 126 or code == 10:
                    self.assertIs(type(raised(function, (text,))), ParseError)
                    self.check_text(function, text)
                else:
                    self.check_error(function, (text,), OPERATION(None))

    def test_long_texts(self):
        for function in READERS:
            for text in ("\n" * 300000, " " * 300000, "9" * 300000, "x" * 300000, "library 5\nbook" + " 1" * 149990 + "\n", "lots 6\n" + "lot\n" * 70000, "library " + "7" * 299000 + "\n",
                         "scheme plain 2 1 1 1\nwish 0\n" + "coin 1\n" * 40000, "lots 6\nlot" + " 0" * 149000 + "\n", "scheme plain 2 1 1 100\nwish 0\ncoin 1\n" + ("sum 0" + " 1" * 100 + "\n") * 1400):
                self.assertLessEqual(len(text), 300000)
                error = self.check_within(3, raised, function, (text,))
                self.assertIs(type(error), ParseError)
                self.assertEqual(error.spot, own_read(function, text))
        good = library_text(Library(5, ((1,),)))
        self.assertEqual(self.check_text(read_library, good + " " * (300000 - len(good))), 3)

    def test_equal_calls(self):
        self.check_twice(library_text, [(Library(5, ((1, 0), (4, 2))),)])
        self.check_twice(lots_text, [(3, ((), (0, 2)))])
        self.check_twice(scheme_text, [(scheme,) for scheme in SCHEMES])
        for function, text in texts():
            self.check_twice(function, [(text,)])
            self.assertEqual(shown(raised(function, (text + "x",)).spot), shown(raised(function, (text + "x",)).spot))

    def test_not_true(self):
        """[21.6]"""
        turned = Scheme(2, 2, 2, 1, False, tuple([coins[::-1] for coins in LONE.wishes]))
        self.assertNotEqual(scheme_text(turned), scheme_text(LONE))
        self.assertEqual(read_scheme(scheme_text(turned)), turned)
        self.assertEqual(raised(read_scheme, (scheme_text(LONE)[:-1],)).spot, len(scheme_text(LONE).split("\n")) - 2)


if __name__ == "__main__":
    unittest.main()
