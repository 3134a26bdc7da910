"""Points 123 and 124: deeds, their written forms and journals."""

import random
import re
import unittest
from fractions import Fraction

from fineststep.deeds import read_deed, read_journal, write_deed, write_journal
from fineststep.errors import BadDeed, BadText
from helpers import Case, number_of
from texts import value_of

HALF = (1, 2)

FORMS = [
    (("range", "a", None, None), "range a"),
    (("range", "a", 3, None), "range a from 3"),
    (("range", "a", None, (-7, 2)), "range a to -7/2"),
    (("range", "a", 0, 5), "range a from 0 to 5"),
    (("range", "a", 5, 0), "range a from 5 to 0"),
    (("range", "a", HALF, (1, 3)), "range a from 1/2 to 1/3"),
    (("range", "a", 3, 3), "range a at 3"),
    (("range", "a", 0, 0), "range a at 0"),
    (("range", "a", HALF, HALF), "range a at 1/2"),
    (("price", "a", 0), "price a 0"),
    (("price", "x1", (-3, 2)), "price x1 -3/2"),
    (("mark", "a"), "mark a"),
    (("unmark", "a"), "unmark a"),
    (("leave", "a"), "leave a"),
    (("sum", "d", []), "sum d = 0"),
    (("entry", "d", []), "entry d = 0"),
    (("sum", "d", [(1, "a")]), "sum d = a"),
    (("sum", "d", [(-1, "a")]), "sum d = - a"),
    (("sum", "d", [(2, "a"), (-1, "b"), (HALF, "c"), (-10, "e")]), "sum d = 2 a - b + 1/2 c - 10 e"),
    (("entry", "d", [((-7, 2), "a"), (1, "a")]), "entry d = - 7/2 a + a"),
    (("range", "from", 1, 2), "range from from 1 to 2"),
    (("range", "at", None, 2), "range at to 2"),
    (("range", "range", 2, 2), "range range at 2"),
    (("price", "price", 1), "price price 1"),
    (("mark", "unmark"), "mark unmark"),
    (("leave", "leave"), "leave leave"),
    (("sum", "sum", [(1, "entry"), (-3, "to")]), "sum sum = entry - 3 to"),
    (("entry", "whole", [(-1, "from")]), "entry whole = - from"),
    (("mark", "abcdefghijkl"), "mark abcdefghijkl"),
]

BAD_LINES = """range
price a
mark
mark a b
leave a 1
range a at
range a from
range a to
range a at 1 2
range a from 1 2
range a from 1 to
range a to 2 from 1
range a from 3 to 3
range a at 1 to 2
range a from b
range a whole
price a b
price a 1 2
price a at 1
sum d
sum d =
sum d 0
sum d = 0 a
sum d = 0 0
sum d = a 0
sum d = a + 0 b
sum d = 1 a
sum d = - 1 a
sum d = -1 a
sum d = -2 a
sum d = - -2 a
sum d = + a
sum d = + 2 a
sum d = a +
sum d = a -
sum d = a b
sum d = a + - b
sum d = a - - b
sum d = a * b
sum d = 2
sum d = 2 2 a
sum d = a + 2
sum d = 2/4 a
sum d = 4/2 a
sum d = 02 a
sum d = a + 1 b
sum d == a
sum d = -
entry d
entry d =
entry d = 1 a
Mark a
 mark a
mark  a
mark\ta
range a  at 3
range a at  3
sum d =  a
sum  d = a
price a +1
price a -0
price a 01
price a 2/4
price a 3/1
price a 1/0
price a 1/-2
price a 1.5
range a at 03
range a from 1/00
mark A
mark 1a
mark a_b
mark abcdefghijklm
price a- 1
sum D = a
sum d = A
sum d = a + B
sum d = 2 1
sum d = 2 abcdefghijklm
entry 9 = a
undo
redo
report
fold a
a
0
""".replace("\\t", "\t").split("\n") + ["mark a ", "price a 1 ", "range a ", "sum d = ", "sum d = a "]


def slow_parse(line):
    """Returns the deed that a line is a written form of, None if there is none; patterns say what is written."""
    number, name = r"(?:0|-?[1-9][0-9]*)(?:/[1-9][0-9]*)?", r"[a-z][a-z0-9]{0,11}"
    found = re.fullmatch(f"(mark|unmark|leave) ({name})", line)
    if found:
        return (found[1], found[2])
    found = re.fullmatch(f"price ({name}) ({number})", line)
    if found and value_of(found[2]) is not None:
        return ("price", found[1], number_of(value_of(found[2])))
    found = re.fullmatch(f"range ({name})(?: at ({number}))?", line)
    if found:
        if not found[2]:
            return ("range", found[1], None, None)
        return None if value_of(found[2]) is None else ("range", found[1]) + 2 * (number_of(value_of(found[2])),)
    found = re.fullmatch(f"range ({name})(?: from ({number}))?(?: to ({number}))?", line)
    if found and all(word is None or value_of(word) is not None for word in found.groups()[1:]) and found[2] != found[3]:
        return ("range", found[1]) + tuple(None if word is None else number_of(value_of(word)) for word in found.groups()[1:])
    found = re.fullmatch(f"(sum|entry) ({name}) = (0|(?:- )?(?:{number} )?{name}(?: [+-] (?:{number} )?{name})*)", line)
    if not found:
        return None
    terms = []
    for sign, factor, term in [] if found[3] == "0" else re.findall(f"(?:^|(?<= ))([+-] )?({number} )?({name})", found[3]):
        value = value_of(factor.strip()) if factor else Fraction(1)
        if value is None or value <= 0 or factor.strip() == "1":
            return None
        terms.append((number_of(-value if sign == "- " else value), term))
    return (found[1], found[2], terms)


def random_deed(rng):
    """Returns a deed with well-formed names."""
    name = rng.choice(["a", "b", "c1", "from", "to", "at", "sum", "zzzzzzzzzzzz"])
    number = rng.choice([0, 1, -1, 2, -3, HALF, (-1, 2), (7, 3), (-5, 4), 10 ** 30])
    word = rng.choice(["range", "price", "mark", "unmark", "sum", "entry", "leave"])
    if word == "range":
        return (word, name, rng.choice([None, 0, number]), rng.choice([None, 0, number]))
    if word == "price":
        return (word, name, number)
    if word in ("sum", "entry"):
        return (word, name, [(rng.choice([0, 1, -1, 2, HALF, (-7, 2)]), rng.choice(["a", "b", "at"])) for _ in range(rng.randint(0, 3))])
    return (word, name)


def without_zeros(deed):
    """Returns the deed without terms whose number is 0."""
    return deed[:2] + ([term for term in deed[2] if term[0] != 0],) if deed[0] in ("sum", "entry") else deed


class Deeds(Case):
    def test_the_examples(self):
        self.assertEqual(write_deed(("sum", "d", [(-2, "a"), ((1, 2), "b"), (0, "c"), (-1, "e1")])), "sum d = - 2 a + 1/2 b - e1")
        self.assertEqual(read_deed("range a at 3"), ("range", "a", 3, 3))

    def test_each_form(self):
        for deed, line in FORMS:
            self.assertEqual(write_deed(deed), line)
            self.assertEqual(read_deed(line), deed)
            self.assertEqual(slow_parse(line), deed)
            self.assertIs(type(read_deed(line)), tuple)

    def test_terms_with_the_number_0_are_not_written(self):
        self.assertEqual(write_deed(("sum", "d", [(0, "a"), (2, "b")])), "sum d = 2 b")
        self.assertEqual(write_deed(("entry", "d", [(0, "a"), (1, "b"), (0, "c")])), "entry d = b")
        self.assertEqual(write_deed(("sum", "d", [(0, "a")])), "sum d = 0")

    def test_tuples_that_are_no_deeds(self):
        for deed in ((), ("fold", "a"), ("Range", "a", 0, 1), ("", "a"), ("range", "a", 0), ("range", "a", 0, 1, 2), ("range",),
                     ("price", "a"), ("price", "a", 1, 2), ("mark",), ("mark", "a", True), ("unmark", "a", "b"), ("unmark",),
                     ("sum", "d"), ("sum", "d", [], []), ("entry", "d"), ("entry", "d", [], 0), ("leave",), ("leave", "a", "b"),
                     ("undo",), ("report", "a"), (0, "a"), (None, "a", 1)):
            self.raises(BadDeed, write_deed, deed)
            self.raises(BadDeed, write_journal, [("mark", "a"), deed])

    def test_lines_that_are_nearly_a_written_form(self):
        for line in BAD_LINES:
            self.assertIsNone(slow_parse(line), line)
            self.raises(BadText, read_deed, line)

    def test_long_numerals(self):
        self.assertEqual(read_deed("price a " + "9" * 400), ("price", "a", 10 ** 400 - 1))
        self.assertEqual(read_deed("sum d = 1/" + "9" * 400 + " a")[2], [((1, 10 ** 400 - 1), "a")])
        self.raises(BadText, read_deed, "price a " + "9" * 401)
        self.raises(BadText, read_deed, "sum d = " + "9" * 401 + " a")

    def test_lines_with_newlines(self):
        for line in ("mark a\n", "\nmark a", "mark a\nmark b", "mark\na", "range a at 3\n", "sum d = a\n+ b"):
            self.raises(BadText, read_deed, line)

    def test_many_deeds(self):
        rng = random.Random(321)
        for _ in range(400):
            deed = random_deed(rng)
            line = write_deed(deed)
            self.assertEqual(read_deed(line), without_zeros(deed))

    def test_many_spoilt_lines(self):
        rng = random.Random(322)
        good = 0
        for _ in range(3000):
            words = write_deed(random_deed(rng)).split(" ")
            at = rng.randrange(len(words) + 1)
            word = rng.choice(["", "0", "1", "-1", "2", "1/2", "2/4", "-", "+", "=", "a", "A", "at", "from", "to", "range", "mark"])
            how = rng.randrange(3)
            if how == 0:
                words.insert(at, word)
            elif how == 1:
                words[at:at + 1] = [word]
            else:
                del words[at:at + 1]
            line = " ".join(words)
            expected = slow_parse(line)
            if expected is None:
                self.raises(BadText, read_deed, line)
            else:
                self.assertEqual(read_deed(line), expected)
                good += 1
        self.assertGreater(good, 200)


class Journals(Case):
    def test_journals(self):
        deeds = [deed for deed, _ in FORMS]
        text = "\n".join(line for _, line in FORMS)
        self.assertEqual(write_journal(deeds), text)
        self.assertEqual(read_journal(text), deeds)

    def test_one_deed_and_none(self):
        self.assertEqual((write_journal([]), read_journal("")), ("", []))
        self.assertEqual((write_journal([("mark", "a")]), read_journal("mark a")), ("mark a", [("mark", "a")]))

    def test_empty_lines_and_a_newline_at_the_end(self):
        for text in ("\n", "mark a\n", "\nmark a", "mark a\n\nmark b", " ", "mark a\n ", "mark a\nmark"):
            self.raises(BadText, read_journal, text)


if __name__ == "__main__":
    unittest.main()
