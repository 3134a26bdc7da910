"""Points 21, 22, 23 and 25: model texts are read."""

import unittest
from fractions import Fraction

from fineststep.books import is_table, pivots
from fineststep.errors import BadLine
from fineststep.models import Model
from fineststep.reading import read_model
from helpers import Case, numbers_of
from texts import random_text, seeded, slow_fault, slow_values, spoiled

EDGES = [
    # no word, empty words, lines without words, newlines at the start and at the end
    ("", 1, 1), (" ", 1, 1), ("\n", 1, 1), ("\nentry a", 1, 1), ("entry a\n", 2, 1), ("entry a\n\nentry b", 2, 1),
    (" entry a", 1, 1), ("entry a ", 1, 3), ("entry  a", 1, 2), ("entry a  from 1", 1, 3), ("entry a\n ", 2, 1),
    ("sum a =  0", 1, 4), ("sum a = 0 ", 1, 5), ("entry a from 1 ", 1, 5), ("entry a whole ", 1, 4),
    # the head
    ("Entry a", 1, 1), ("total a", 1, 1), ("entry", 1, 2), ("sum", 1, 2), ("entry ", 1, 2), ("entry A", 1, 2),
    ("entry 1", 1, 2), ("entry a_b", 1, 2), ("entry abcdefghijklm", 1, 2), ("sum A = 0", 1, 2), ("entry a =", 1, 3),
    ("entry a\nentry a", 2, 2), ("entry a\nsum a = a", 2, 2), ("sum a", 1, 3), ("sum a 0", 1, 3), ("sum a == 0", 1, 3),
    ("sum a =", 1, 4),
    # the first line has no earlier cell
    ("sum a = a", 1, 4), ("sum a = 1", 1, 4), ("sum a = -", 1, 4), ("sum a = - 0", 1, 4), ("sum a = b", 1, 4),
    ("sum a = 0 a", 1, 5), ("sum a = 0 b", 1, 5), ("sum a = 0 +", 1, 5), ("sum a = 0 0", 1, 5), ("sum a = 00", 1, 4),
    ("sum a = -0", 1, 4), ("sum a = from 1", 1, 4),
    # terms
    ("entry a\nsum b =", 2, 4), ("entry a\nsum b = c", 2, 4), ("entry a\nsum b = b", 2, 4), ("entry a\nsum b = +", 2, 4),
    ("entry a\nsum b = + a", 2, 4), ("entry a\nsum b = -", 2, 5), ("entry a\nsum b = - -", 2, 5),
    ("entry a\nsum b = - - a", 2, 5), ("entry a\nsum b = - + a", 2, 5), ("entry a\nsum b = 2", 2, 5),
    ("entry a\nsum b = 2 2 a", 2, 5), ("entry a\nsum b = 2 - a", 2, 5), ("entry a\nsum b = 2 b", 2, 5),
    ("entry a\nsum b = 2/4 a", 2, 4), ("entry a\nsum b = -0 a", 2, 4), ("entry a\nsum b = +1 a", 2, 4),
    ("entry a\nsum b = a +", 2, 6), ("entry a\nsum b = a -", 2, 6), ("entry a\nsum b = a + +", 2, 6),
    ("entry a\nsum b = a + b", 2, 6), ("entry a\nsum b = a + 2", 2, 7), ("entry a\nsum b = a + 2 from", 2, 7),
    ("entry a\nsum b = a a", 2, 5), ("entry a\nsum b = a 2", 2, 5), ("entry a\nsum b = 2a", 2, 4),
    ("entry a\nsum b = a + 2 c", 2, 7), ("entry a\nsum b = a = a", 2, 5), ("entry a\nsum b = 2 a 3 a", 2, 6),
    # the word 0 after =
    ("entry a\nsum b = 0 + a", 2, 5), ("entry a\nsum b = 0 - a", 2, 5), ("entry a\nsum b = 0 b", 2, 5),
    ("entry a\nsum b = 0 0 a", 2, 5), ("entry a\nsum b = 0 = a", 2, 5), ("entry a\nsum b = 0 from", 2, 6),
    ("entry from\nsum b = 0 from", 2, 6), ("entry from\nsum b = 0 from + from", 2, 6), ("entry to\nsum b = 0 to", 2, 6),
    ("entry at\nsum b = 0 at at 3", 2, 6), ("entry price\nsum b = 0 price", 2, 6), ("entry a\nsum b = 0 whole whole", 2, 6),
    ("entry whole\nsum b = 0 whole + whole", 2, 6), ("entry a\nsum b = - 0", 2, 6), ("entry a\nsum b = - 0 from 1", 2, 6),
    ("entry a\nsum b = a + 0", 2, 7), ("entry a\nsum b = 0 ", 2, 5), ("sum a = 0\nsum b = 0 + a", 2, 5),
    # ranges
    ("entry a from", 1, 4), ("entry a to", 1, 4), ("entry a at", 1, 4), ("entry a from x", 1, 4), ("entry a to -", 1, 4),
    ("entry a at 1/1", 1, 4), ("entry a from 1 to", 1, 6), ("entry a from 1 to x", 1, 6), ("entry a from 1 to 0", 1, 6),
    ("entry a from 1/2 to 1/3", 1, 6), ("entry a from 1 from 2", 1, 5), ("entry a to 1 from 0", 1, 5),
    ("entry a to 1 to 2", 1, 5), ("entry a at 1 to 2", 1, 5), ("entry a at 1 at 1", 1, 5), ("entry a from 1 at 1", 1, 5),
    ("entry a at 1 2", 1, 5), ("entry a 1", 1, 3), ("entry a from 1 to 2 to 3", 1, 7), ("entry a from 1 2", 1, 5),
    ("entry a from to 1", 1, 4),
    # bottoms of zeros
    ("entry a at 1/0", 1, 4), ("entry a at 1/00", 1, 4), ("entry a from -3/000", 1, 4), ("entry a to 0/00", 1, 4),
    ("entry a from 0 to 1/00", 1, 6), ("entry a price 1/000", 1, 4), ("entry a\nsum b = 1/00 a", 2, 4),
    ("entry a\nsum b = - 1/00 a", 2, 5), ("entry a\nsum b = 0 a + 1/00 a", 2, 7), ("sum a = 1/00", 1, 4),
    # prices
    ("entry a price", 1, 4), ("entry a price x", 1, 4), ("entry a price 1 price 1", 1, 5), ("entry a price 1 from 1", 1, 5),
    ("entry a price 1 2", 1, 5), ("entry a price whole", 1, 4), ("entry a price -0", 1, 4), ("entry a price 1 at 1", 1, 5),
    # marks and words too many
    ("entry a whole whole", 1, 4), ("entry a whole price 1", 1, 4), ("entry a whole from 1", 1, 4), ("entry a whole 1", 1, 4),
    ("entry a from 1/2 whole", 1, 5), ("entry a to 1/2 whole", 1, 5), ("entry a at -1/2 whole", 1, 5),
    ("entry a from 1/2 to 3 whole", 1, 7), ("entry a from 0 to 1/2 whole", 1, 7), ("entry a from 1/2 price 1 whole", 1, 7),
    ("entry a from 1/2 whole x", 1, 5), ("entry a x", 1, 3), ("entry a +", 1, 3), ("entry a entry b", 1, 3),
    # the first fault counts, whatever follows
    ("entry A\nentry a\nentry a", 1, 2), ("entry a\nentry b from\nfoo", 2, 4), ("entry a from 1 to 0 price x", 1, 6),
    ("foo\n" * 20, 1, 1), ("\n".join(f"entry a{k}" for k in range(16)) + "\n", 17, 1),
    ("\n".join(f"entry a{k}" for k in range(17)), 17, 1), ("\n".join(f"entry a{k}" for k in range(40)), 17, 1),
    ("\n".join(f"entry a{k}" for k in range(15)) + "\nentry a0\nentry a99", 16, 2),
]


class Faults(Case):
    def test_each_edge(self):
        for text, line, word in EDGES:
            with self.subTest(text=text):
                self.raises_line(line, word, BadLine, read_model, text)
                self.assertEqual(slow_fault(text), (line, word))

    def test_numerals_of_400_and_401_digits(self):
        most = "9" * 400
        self.assertEqual(read_model(f"entry a from {most}").box, ((10 ** 400 - 1, None),))
        self.assertEqual(read_model(f"entry a price -1/{most}").prices, ((-1, 10 ** 400 - 1),))
        self.raises_line(1, 4, BadLine, read_model, f"entry a from {most}9")
        self.raises_line(1, 6, BadLine, read_model, f"entry a from 1 to 1/{most}9")
        self.raises_line(2, 4, BadLine, read_model, f"entry a\nsum b = {most}9 a")

    def test_spoiled_texts(self):
        rng = seeded(11)
        for _ in range(4000):
            text = random_text(rng, 4)
            self.assertIsNone(slow_fault(text), text)
            for _ in range(rng.randint(1, 2)):
                text = spoiled(rng, text)
            fault = slow_fault(text)
            if fault is None:
                self.assertIs(type(read_model(text)), Model)
            else:
                with self.subTest(text=text):
                    self.raises_line(*fault, BadLine, read_model, text)


class Models(Case):
    def read(self, text):
        """Returns names, frame, box, prices and marks of the model of the text."""
        model = read_model(text)
        self.assertIs(type(model), Model)
        return (model.book.names, model.book.frame, model.box, model.prices, model.marks)

    def test_the_example(self):
        model = read_model("entry a to 3\nsum b = 2 a - 1/2 a price -1")
        self.assertEqual([model.book.frame, model.box, model.prices],
                         [((2, 3),), ((None, 3), (None, None)), (0, -1)])

    def test_one_line(self):
        free = ((1,),)
        self.assertEqual(self.read("entry a"), (("a",), free, ((None, None),), (0,), ()))
        self.assertEqual(self.read("sum a = 0"), (("a",), (), ((None, None),), (0,), ()))
        self.assertEqual(self.read("sum a = 0 from 1 to 2 price 3 whole"), (("a",), (), ((1, 2),), (3,), (0,)))
        self.assertEqual(self.read("entry a from 1"), (("a",), free, ((1, None),), (0,), ()))
        self.assertEqual(self.read("entry a to -1/2"), (("a",), free, ((None, (-1, 2)),), (0,), ()))
        self.assertEqual(self.read("entry a from 1 to 1"), (("a",), free, ((1, 1),), (0,), ()))
        self.assertEqual(self.read("entry a from -1 to 1/2 price 1/3"), (("a",), free, ((-1, (1, 2)),), ((1, 3),), ()))
        self.assertEqual(self.read("entry a at 0 whole"), (("a",), free, ((0, 0),), (0,), (0,)))
        self.assertEqual(self.read("entry a price -5 whole"), (("a",), free, ((None, None),), (-5,), (0,)))
        self.assertEqual(self.read("entry a whole"), (("a",), free, ((None, None),), (0,), (0,)))
        self.assertEqual(self.read("entry a at 1/2 price 0"), (("a",), free, (((1, 2), (1, 2)),), (0,), ()))

    def test_terms(self):
        for terms, top, bottom in (("a", 1, 1), ("- a", -1, 1), ("0 a", 0, 1), ("-1 a", -1, 1), ("- -1 a", 1, 1),
                                   ("a + a", 2, 1), ("a - a", 0, 1), ("- a - a", -2, 1), ("1/2 a + 1/3 a", 5, 6),
                                   ("a - -2 a", 3, 1), ("- 0 a", 0, 1), ("a + 0 a", 1, 1), ("2 a - 1/2 a", 3, 2)):
            self.assertEqual(self.read(f"entry a\nsum b = {terms}")[1], ((bottom, top),))

    def test_terms_that_name_sums(self):
        self.assertEqual(self.read("entry a\nsum b = 2 a\nsum c = 3 b - a\nsum d = c + b")[1], ((1, 2, 5, 7),))
        self.assertEqual(self.read("sum z = 0\nentry a\nsum b = 5 z - a")[1], ((0, 1, -1),))
        self.assertEqual(self.read("entry a\nsum b = a\nentry c\nsum d = c - b")[1], ((1, 1, 0, -1), (0, 0, 1, 1)))

    def test_the_word_0_after_the_sign(self):
        for name in ("from", "to", "at", "price", "whole"):
            self.assertEqual(self.read(f"entry {name}\nsum b = 0")[1], ((1, 0),))
            self.assertEqual(self.read(f"entry {name}\nsum b = - 0 {name}")[1], ((1, 0),))
            self.assertEqual(self.read(f"entry {name}\nsum b = {name}")[1], ((1, 1),))
            self.assertEqual(self.read(f"entry {name}\nsum b = 1 {name} - {name}")[1], ((1, 0),))
        for name, tail, ends, price, marks in (
                ("from", "from 3", (3, None), 0, ()), ("to", "to 3", (None, 3), 0, ()), ("at", "at 3", (3, 3), 0, ()),
                ("price", "price 3", (None, None), 3, ()), ("whole", "whole", (None, None), 0, (1,))):
            for first in (name, "a"):
                found = self.read(f"entry {first}\nsum b = 0 {tail}")
                self.assertEqual(found[1:], (((1, 0),), ((None, None), ends), (0, price), marks))
        self.assertEqual(self.read("entry from\nsum b = from from 3")[1:3], (((1, 1),), ((None, None), (3, None))))
        self.assertEqual(self.read("entry sum\nsum b = 0 sum from 3")[1:3], (((1, 0),), ((None, None), (3, None))))
        self.assertEqual(self.read("entry a\nsum b = 0 a + a")[1], ((1, 1),))

    def test_words_of_the_grammar_as_names(self):
        text = "entry entry\nentry sum\nsum from = entry\nsum to = from - sum from 1 to 2\nsum whole = to whole"
        self.assertEqual(self.read(text), (("entry", "sum", "from", "to", "whole"), ((1, 0, 1, 1, 1), (0, 1, 0, -1, -1)),
                                           ((None, None),) * 3 + ((1, 2), (None, None)), (0,) * 5, (4,)))

    def test_sixteen_lines(self):
        text = "\n".join(f"entry a{k}" for k in range(15)) + "\nsum b = a0 - a14"
        model = read_model(text)
        self.assertEqual((model.book.size, pivots(model.book)), (16, list(range(15))))

    def test_the_entries_are_the_cells_with_the_head_entry(self):
        rng = seeded(12)
        for _ in range(500):
            text = random_text(rng)
            model = read_model(text)
            heads = [line.split(" ")[0] for line in text.split("\n")]
            self.assertEqual(pivots(model.book), [k for k, head in enumerate(heads) if head == "entry"])
            entries = {name: Fraction(rng.randint(-3, 3), rng.randint(1, 3)) for name in model.book.names}
            table = numbers_of(slow_values(text, entries))
            self.assertIs(is_table(model.book, table), True)

    def test_long_factors(self):
        big = 10 ** 399
        text = f"entry a\nsum b = {big} a\nsum c = {big} b + 1/{big} a"
        self.assertEqual(read_model(text).book.frame, ((big, big ** 2, big ** 3 + 1),))


if __name__ == "__main__":
    unittest.main()
