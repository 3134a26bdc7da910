"""Points 38 and 39: the finest step."""

import unittest
from math import lcm

from fineststep.bases import bases, basis_rows
from fineststep.books import Book, other_side
from fineststep.errors import TooWide
from fineststep.exact import common_bottom
from fineststep.finest import finest_step, steps
from helpers import Case, names, sample_books, slow_turnings, wide_books


class Finest(Case):
    def test_some_books(self):
        book = Book(["a", "b", "c"], [[2, 1, 0], [0, 3, 3]])
        self.assertEqual([steps(book), finest_step(book)], [[1, 2], 2])
        self.assertEqual([steps(other_side(book)), finest_step(other_side(book))], [[1, 2], 2])
        book = Book(["a", "b", "c"], [[2, 3, 5]])
        self.assertEqual([steps(book), finest_step(book)], [[2, 3, 5], 30])
        self.assertEqual([steps(other_side(book)), finest_step(other_side(book))], [[2, 3, 5], 30])

    def test_books_with_few_turnings(self):
        for size in (1, 9):
            self.assertEqual([steps(Book(names(size), [])), finest_step(Book(names(size), []))], [[], 1])
            self.assertEqual([steps(Book.free(names(size))), finest_step(Book.free(names(size)))], [[1], 1])
        self.assertEqual(finest_step(Book(["a"], [[7]])), 1)

    def test_many_books(self):
        for book in sample_books(6, 60):
            found = sorted({abs(x) for row in slow_turnings(book) for x in row if x != 0})
            self.assertEqual(steps(book), found)
            self.assertEqual(finest_step(book), lcm(*found))
            self.assertEqual(finest_step(other_side(book)), lcm(*found))
            bottoms = [common_bottom(row) for basis in bases(book) for row in basis_rows(book, basis)]
            self.assertEqual(finest_step(book), lcm(*bottoms))

    def test_long_numbers(self):
        self.assertEqual(finest_step(Book(["a", "b"], [[10 ** 50, 10 ** 50 + 1]])), 10 ** 50 * (10 ** 50 + 1))

    def test_too_wide(self):
        for book in wide_books():
            self.raises_wide(book.size, TooWide, steps, book)
            self.raises_wide(book.size, TooWide, finest_step, book)


if __name__ == "__main__":
    unittest.main()
