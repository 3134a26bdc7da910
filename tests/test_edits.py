"""Points 123 and 125 to 128: deeds that are done to a model."""

import random
import unittest
from fractions import Fraction

from fineststep.books import Book, is_table
from fineststep.edits import edited
from fineststep.errors import BadDeed, BadName, BadOrder, BadSize, EmptyRange, NoCell, NotWhole
from fineststep.models import Model, same_model, with_mark, with_price, with_range
from fineststep.reshaped import blank, with_entry, with_sum
from helpers import Case, fraction, fractions, names, number_of, numbers_of, random_number, random_table, sample_models

FREE = (None, None)
HALF = (1, 2)
BOOK = Book(["a", "b", "c"], [[1, 0, 1], [0, 1, 1]])
MODEL = Model(BOOK, [(0, 2), (0, None), (1, (5, 2))], prices=[1, HALF, 0], marks=[0])
WIDE = Model(Book(names(16), [[1] * 16]), [FREE] * 16)


class Ranges(Case):
    def test_ranges_prices_and_marks(self):
        self.assertTrue(same_model(edited(MODEL, ("range", "b", 1, HALF[1])), with_range(MODEL, 1, 1, 2)))
        self.assertEqual(edited(MODEL, ("range", "c", None, None)).box, ((0, 2), (0, None), FREE))
        self.assertTrue(same_model(edited(MODEL, ("price", "c", (-7, 2))), with_price(MODEL, 2, (-7, 2))))
        self.assertTrue(same_model(edited(MODEL, ("mark", "b")), with_mark(MODEL, 1, True)))
        self.assertEqual(edited(MODEL, ("mark", "a")).marks, (0,))
        self.assertEqual(edited(MODEL, ("unmark", "a")).marks, ())
        self.assertEqual(edited(MODEL, ("unmark", "c")).marks, (0,))

    def test_errors(self):
        for deed in (("range", "d", 3, 1), ("price", "d", 1), ("mark", "d"), ("unmark", "d"), ("leave", "d"), ("leave", "A"),
                     ("range", "", HALF, HALF)):
            self.raises_cell(NoCell, deed[1], edited, MODEL, deed)
        self.raises_cell(EmptyRange, 1, edited, MODEL, ("range", "b", 3, 1))
        self.raises_cell(EmptyRange, 0, edited, MODEL, ("range", "a", 1, HALF))
        self.raises(NotWhole, edited, MODEL, ("range", "a", HALF, 1))
        self.raises(NotWhole, edited, MODEL, ("mark", "c"))
        self.assertEqual(edited(edited(MODEL, ("range", "c", 1, 2)), ("mark", "c")).marks, (0, 2))

    def test_bad_deeds_come_first(self):
        for deed in ((), ("fold", "d"), ("range", "d", 0), ("mark", "d", 1), ("leave",), ("sum", "A")):
            self.raises(BadDeed, edited, MODEL, deed)


class Sums(Case):
    def test_a_sum(self):
        model = edited(MODEL, ("sum", "d", [((1, 3), "c"), (-2, "a"), (0, "b")]))
        self.assertEqual(model.book.names, ("a", "b", "c", "d"))
        self.assertEqual(model.book.frame, with_sum(BOOK, "d", [-2, 0, (1, 3)]).frame)
        self.assertEqual((model.box, model.prices, model.marks), (MODEL.box + (FREE,), (1, HALF, 0, 0), (0,)))

    def test_no_terms(self):
        model = edited(MODEL, ("sum", "d", []))
        self.assertEqual(model.book.frame, ((1, 0, 1, 0), (0, 1, 1, 0)))
        self.assertEqual(edited(MODEL, ("entry", "d", [])).book.frame, ((1, 0, 1, 0), (0, 1, 1, 0), (0, 0, 0, 1)))

    def test_an_entry(self):
        # d goes up by one, and a goes down by 2.
        model = edited(MODEL, ("entry", "d", [(-2, "a")]))
        self.assertEqual(model.book.frame, with_entry(BOOK, "d", [-2, 0, 0]).frame)
        self.assertTrue(is_table(model.book, [-2, 0, 0, 1]) and is_table(model.book, [1, 0, 1, 0]))
        self.assertFalse(is_table(model.book, [-1, 0, 0, 0]))
        self.assertEqual((model.box, model.prices, model.marks), (MODEL.box + (FREE,), (1, HALF, 0, 0), (0,)))

    def test_an_entry_whose_row_is_a_table_and_one_whose_row_is_none(self):
        inside = edited(MODEL, ("entry", "d", [(1, "a"), (1, "c")]))
        self.assertEqual(inside.book.frame, ((1, 0, 1, 0), (0, 1, 1, 0), (0, 0, 0, 1)))
        # Now c is an entry, and d follows from c - a - b.
        outside = edited(MODEL, ("entry", "d", [(2, "c")]))
        self.assertEqual(outside.book.frame, ((2, 0, 0, -1), (0, 2, 0, -1), (0, 0, 2, 1)))

    def test_the_order_of_errors(self):
        for word in ("sum", "entry"):
            # The first unknown name, ahead of a cell that is named twice.
            self.raises_cell(NoCell, "x", edited, WIDE, (word, "A", [(1, "c0"), (1, "c0"), (0, "x"), (1, "y")]))
            for terms in ([(1, "c0"), (2, "c0")], [(0, "c1"), (1, "c2"), (0, "c1")]):
                self.raises(BadOrder, edited, WIDE, (word, "A", terms))
            self.raises(BadSize, edited, WIDE, (word, "A", [(1, "c0")]))
            self.raises(BadSize, edited, WIDE, (word, "c0", []))
            self.raises(BadSize, edited, WIDE, (word, "d", []))
            for name in ("A", "", "a b", "x" * 13, "1", "a", "c"):
                self.raises(BadName, edited, MODEL, (word, name, [(1, "a")]))
            # The new cell itself has no name yet.
            self.raises_cell(NoCell, "d", edited, MODEL, (word, "d", [(1, "d")]))

    def test_a_sixteenth_cell(self):
        model = edited(WIDE, ("leave", "c3"))
        self.assertEqual(edited(model, ("sum", "x", [(2, "c0")])).book.frame, (tuple([1] * 15 + [2]),))
        self.assertEqual(edited(model, ("entry", "x", [])).book.size, 16)

    def test_many_models(self):
        rng = random.Random(331)
        for model in sample_models(6, 40, seed=331):
            row = [random_number(rng) for _ in range(model.book.size)]
            terms = [(number, name) for number, name in zip(row, model.book.names) if number != 0 or rng.random() < 0.3]
            rng.shuffle(terms)
            table = random_table(rng, model.book)
            total = sum((x * y for x, y in zip(fractions(row), fractions(table))), Fraction(0))
            left = edited(model, ("sum", "new", terms))
            self.assertTrue(is_table(left.book, table + [number_of(total)]))
            self.assertFalse(is_table(left.book, table + [number_of(total + 1)]))
            times = random_number(rng)
            moved = numbers_of([x + fraction(times) * y for x, y in zip(fractions(table), fractions(row))])
            after = edited(model, ("entry", "new", terms))
            self.assertTrue(is_table(after.book, moved + [times]))
            self.assertEqual(len(after.book.frame), len(model.book.frame) + 1)
            for changed in (left, after):
                self.assertEqual(changed.book.names, model.book.names + ("new",))
                self.assertEqual((changed.box, changed.prices, changed.marks), (model.box + (FREE,), model.prices + (0,), model.marks))


class Leaves(Case):
    def test_the_other_cells_keep_what_they_have(self):
        model = Model(BOOK, [(0, 2), (0, None), (1, 3)], prices=[1, HALF, 7], marks=[0, 2])
        self.assertTrue(same_model(edited(model, ("leave", "b")), Model(blank(BOOK, [1]), [(0, 2), (1, 3)], prices=[1, 7], marks=[0, 1])))
        self.assertTrue(same_model(edited(model, ("leave", "a")), Model(blank(BOOK, [0]), [(0, None), (1, 3)], prices=[HALF, 7], marks=[1])))
        left = edited(model, ("leave", "c"))
        self.assertEqual((left.book.names, left.book.frame, left.marks), (("a", "b"), ((1, 0), (0, 1)), (0,)))

    def test_the_tables_are_the_old_ones_without_its_number(self):
        # a is always b: without it, b may be anything, and c as before.
        book = Book(["a", "b", "c"], [[1, 1, 0]])
        self.assertEqual(edited(Model(book, [(5, 5), FREE, FREE]), ("leave", "a")).book.frame, ((1, 0),))

    def test_the_only_cell(self):
        for frame in ([], [[1]]):
            model = Model(Book(["a"], frame), [FREE])
            self.raises(BadSize, edited, model, ("leave", "a"))
            self.raises_cell(NoCell, "b", edited, model, ("leave", "b"))

    def test_books_of_16_cells(self):
        left = edited(WIDE, ("leave", "c15"))
        self.assertEqual((left.book.size, left.book.names), (15, tuple(names(15))))


if __name__ == "__main__":
    unittest.main()
