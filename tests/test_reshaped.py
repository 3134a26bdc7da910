"""Points 46 to 48: books that are made from a book."""

import random
import unittest
from fractions import Fraction

from fineststep.books import Book, is_table, other_side, pivots, same_book
from fineststep.errors import BadName, BadOrder, BadSize, BadStep, NoCell
from fineststep.finest import finest_step
from fineststep.reshaped import bind, blank, doubled, reordered, retold, turned, with_entry, with_sum
from helpers import (Case, fraction, fractions, names, numbers_of, random_number, random_rows, random_table,
                     sample_books, tables_with_zeros, wide_books)

BOOK = Book(["a", "b", "c"], [[2, 1, 0], [0, 3, 3]])


def negated(row):
    """Returns the row with every sign turned."""
    return numbers_of(-x for x in fractions(row))


class Left(Case):
    def test_some(self):
        self.assertEqual([bind(BOOK, [0]).names, bind(BOOK, [0]).frame], [("b", "c"), ((1, 1),)])
        self.assertEqual([blank(BOOK, [0]).names, blank(BOOK, [0]).frame], [("b", "c"), ((1, 0), (0, 1))])
        self.assertEqual([bind(BOOK, [2, 0, 2]).names, bind(BOOK, [2, 0, 2]).frame], [("b",), ()])
        self.assertEqual([blank(BOOK, [2, 0, 2]).names, blank(BOOK, [2, 0, 2]).frame], [("b",), ((1,),)])

    def test_no_cells(self):
        for book in sample_books(6, 20) + wide_books():
            self.assertTrue(same_book(bind(book, []), book))
            self.assertTrue(same_book(blank(book, []), book))

    def test_all_cells(self):
        for book in sample_books(6, 20) + wide_books():
            cells = list(range(book.size)) * 2
            self.raises(BadSize, bind, book, cells)
            self.raises(BadSize, blank, book, cells)

    def test_cells_out_of_range(self):
        for function in (bind, blank):
            self.raises_cell(NoCell, 3, function, BOOK, [0, 1, 2, 3, -1])
            self.raises_cell(NoCell, -1, function, BOOK, [-1, 3])

    def test_many_books(self):
        rng = random.Random(33)
        for book in sample_books(7, 50) + wide_books():
            cells = [rng.randrange(book.size) for _ in range(rng.randint(0, book.size + 1))]
            others = [cell for cell in range(book.size) if cell not in cells]
            if not others:
                continue
            new_names = [book.names[cell] for cell in others]
            tables = [numbers_of(table[cell] for cell in others) for table in tables_with_zeros(book, cells)]
            bound, blanked = bind(book, cells), blank(book, cells)
            self.assertTrue(same_book(bound, Book(new_names, tables)))
            self.assertTrue(same_book(blanked, Book(new_names, [[row[cell] for cell in others] for row in book.frame])))
            self.assertTrue(same_book(other_side(blanked), bind(other_side(book), cells)))
            self.assertTrue(same_book(other_side(bound), blank(other_side(book), cells)))
            if book.size <= 9:
                self.assertEqual(finest_step(book) % finest_step(bound), 0)
                self.assertEqual(finest_step(book) % finest_step(blanked), 0)


class Longer(Case):
    def test_some(self):
        book = with_sum(BOOK, "d", [1, (1, 2), 0])
        self.assertEqual([book.names, book.frame], [("a", "b", "c", "d"), ((2, 0, -1, 2), (0, 2, 2, 1))])
        book = with_entry(BOOK, "d", [2, 1, 0])
        self.assertEqual([pivots(book), book.frame], [[0, 1, 3], ((2, 0, -1, 0), (0, 1, 1, 0), (0, 0, 0, 1))])
        book = with_entry(BOOK, "d", [0, 0, (1, 2)])
        self.assertEqual([pivots(book), book.frame], [[0, 1, 2], ((1, 0, 0, 1), (0, 1, 0, -2), (0, 0, 1, 2))])

    def test_many_books(self):
        rng = random.Random(34)
        for book in sample_books(8, 60) + wide_books():
            if book.size == 16:
                continue
            for row in (random_rows(rng, 1, book.size)[0], random_table(rng, book), [0] * book.size):
                self.check(rng, book, row)

    def check(self, rng, book, row):
        """Makes sure that both books have the tables that point 47 names."""
        summed, entered = with_sum(book, "last", row), with_entry(book, "last", row)
        for longer in (summed, entered):
            self.assertEqual(longer.names, book.names + ("last",))
        table = fractions(random_table(rng, book))
        total = sum(x * y for x, y in zip(fractions(row), table))
        self.assertIs(is_table(summed, numbers_of(table + [total])), True)
        self.assertIs(is_table(summed, numbers_of(table + [total + 1])), False)
        self.assertEqual(len(summed.frame), len(book.frame))
        self.assertEqual(pivots(summed), pivots(book))
        t = fraction(random_number(rng))
        moved = [x + t * y for x, y in zip(table, fractions(row))]
        self.assertIs(is_table(entered, numbers_of(moved + [t])), True)
        self.assertEqual(len(entered.frame), len(book.frame) + 1)
        self.assertTrue(set(pivots(book)) <= set(pivots(entered)))
        self.assertIs(book.size in pivots(entered), is_table(book, row))
        other = other_side(book)
        self.assertTrue(same_book(other_side(summed), with_entry(other, "last", negated(row))))
        self.assertTrue(same_book(other_side(entered), with_sum(other, "last", negated(row))))

    def test_errors(self):
        for function in (with_sum, with_entry):
            for row in ([], [1, 2], [1, 2, 3, 4]):
                self.raises(BadSize, function, BOOK, "A", row)
            for name in ("A", "", "a", "c", "a b", "a" * 13):
                self.raises(BadName, function, BOOK, name, [1, 2, 3])
            full = Book.free(names(16))
            self.raises(BadSize, function, full, "A", [0] * 16)
            self.raises(BadSize, function, full, "new", [0] * 16)
            self.assertEqual(function(Book.free(names(15)), "new", [0] * 15).size, 16)


class Changed(Case):
    def test_turned_and_retold(self):
        self.assertEqual(turned(BOOK, 0).frame, ((2, 0, 1), (0, 1, 1)))
        self.assertEqual(retold(BOOK, 2, (1, 2)).frame, ((4, 0, -1), (0, 2, 1)))
        rng = random.Random(35)
        for book in sample_books(7, 40) + wide_books():
            cell = rng.randrange(book.size)
            factor = rng.choice([1, -1, 3, (1, 2), (-4, 3)])
            changed, table = retold(book, cell, factor), fractions(random_table(rng, book))
            table[cell] *= fraction(factor)
            self.assertIs(is_table(changed, numbers_of(table)), True)
            self.assertEqual((changed.names, len(changed.frame)), (book.names, len(book.frame)))
            self.assertTrue(same_book(turned(book, cell), retold(book, cell, -1)))
            self.assertTrue(same_book(turned(turned(book, cell), cell), book))
            back = 1 / fraction(factor)
            self.assertTrue(same_book(retold(changed, cell, numbers_of([back])[0]), book))
            if book.size <= 7:
                self.assertEqual(finest_step(turned(book, cell)), finest_step(book))

    def test_turned_and_retold_errors(self):
        for cell in (-1, 3):
            self.raises_cell(NoCell, cell, turned, BOOK, cell)
            self.raises_cell(NoCell, cell, retold, BOOK, cell, 0)
        self.raises(BadStep, retold, BOOK, 0, 0)

    def test_doubled(self):
        book = doubled(BOOK, 1, "d")
        self.assertEqual([book.names, book.frame], [("a", "b", "c", "d"), ((2, 0, -1, 0), (0, 1, 1, 1))])
        rng = random.Random(36)
        for book in sample_books(7, 40) + wide_books():
            if book.size < 16:
                cell = rng.randrange(book.size)
                longer, table = doubled(book, cell, "last"), random_table(rng, book)
                self.assertIs(is_table(longer, table + [table[cell]]), True)
                self.assertEqual((longer.names, len(longer.frame)), (book.names + ("last",), len(book.frame)))
                if book.size <= 7:
                    self.assertEqual(finest_step(longer), finest_step(book))

    def test_doubled_errors(self):
        full = Book.free(names(16))
        for cell in (-1, 16):
            self.raises_cell(NoCell, cell, doubled, full, cell, "A")
        self.raises(BadSize, doubled, full, 0, "A")
        self.raises(BadSize, doubled, full, 0, "new")
        for name in ("A", "", "a", "c"):
            self.raises(BadName, doubled, BOOK, 0, name)

    def test_reordered(self):
        book = reordered(BOOK, [2, 0, 1])
        self.assertEqual([book.names, book.frame], [("c", "a", "b"), ((1, 0, 1), (0, 2, 1))])
        self.assertTrue(same_book(reordered(BOOK, (0, 1, 2)), BOOK))
        rng = random.Random(37)
        for book in sample_books(7, 40) + wide_books():
            order = rng.sample(range(book.size), book.size)
            changed, table = reordered(book, order), random_table(rng, book)
            self.assertEqual(changed.names, tuple(book.names[cell] for cell in order))
            self.assertIs(is_table(changed, [table[cell] for cell in order]), True)
            self.assertEqual(len(changed.frame), len(book.frame))
            if book.size <= 7:
                self.assertEqual(finest_step(changed), finest_step(book))

    def test_reordered_errors(self):
        for order in ([], [0, 1], [0, 1, 1], [0, 1, 2, 2], [0, 1, 3], [-1, 0, 1], [1, 2, 3], [0, 1, 2, 3], [99]):
            self.raises(BadOrder, reordered, BOOK, order)

    def test_fractions_and_long_factors(self):
        book = retold(Book(["a", "b"], [[1, 1]]), 1, (10 ** 60, 7))
        self.assertEqual(book.frame, ((7, 10 ** 60),))
        self.assertEqual(Fraction(book.frame[0][1], book.frame[0][0]), Fraction(10 ** 60, 7))


if __name__ == "__main__":
    unittest.main()
