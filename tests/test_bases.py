"""Points 28 and 29, and of point 33 that the other cells of a basis are a basis of the other side."""

import inspect
import itertools
import unittest

from fineststep.bases import bases, basis_rows, is_basis, swap
from fineststep.books import Book, is_table, other_side, pivots
from fineststep.errors import NoCell, NotBasis, TooWide
from helpers import Case, names, sample_books, slow_bases, wide_books

BOOK = Book(["a", "b", "c"], [[2, 1, 0], [0, 3, 3]])


class Bases(Case):
    def test_the_example(self):
        self.assertEqual([list(bases(BOOK)), basis_rows(BOOK, [2, 1])],
                         [[[0, 1], [0, 2], [1, 2]], [[2, 1, 0], [-2, 0, 1]]])

    def test_it_is_a_generator_function(self):
        self.assertTrue(inspect.isgeneratorfunction(bases))
        self.assertTrue(all(type(cells) is list for cells in bases(BOOK)))

    def test_the_book_of_zeros_has_the_empty_basis(self):
        for size in (1, 4, 9):
            book = Book(names(size), [])
            self.assertEqual(list(bases(book)), [[]])
            self.assertIs(is_basis(book, []), True)
            self.assertIs(is_basis(book, [0]), False)
            self.assertEqual(basis_rows(book, []), [])
            self.raises(NotBasis, basis_rows, book, [0])

    def test_the_free_book(self):
        book = Book.free(names(3))
        self.assertEqual(list(bases(book)), [[0, 1, 2]])
        self.assertEqual(basis_rows(book, [2, 1, 0]), [[1, 0, 0], [0, 1, 0], [0, 0, 1]])

    def test_books_of_nine_cells(self):
        book = Book(names(9), [[1, 0, 0, 0, 1, 1, 1, 1, 1], [0, 1, 0, 0, 1, 2, 3, 4, 5], [0, 0, 1, 0, 1, 4, 9, 16, 25],
                               [0, 0, 0, 1, 1, 8, 27, 64, 125]])
        self.assertEqual(list(bases(book)), slow_bases(book))
        self.assertEqual(len(list(bases(Book(names(9), [[1] * 9])))), 9)

    def test_too_wide(self):
        for book in wide_books():
            iteration = bases(book)
            self.raises_wide(book.size, TooWide, next, iteration)
        self.assertEqual(len(list(bases(Book.free(names(9))))), 1)

    def test_all_lists_of_cells_of_many_books(self):
        for book in sample_books(6, 40):
            found = list(bases(book))
            self.assertEqual(found, slow_bases(book))
            self.assertEqual(found, sorted(found))
            self.assertIn(pivots(book), found)
            other = other_side(book)
            for many in range(book.size + 1):
                for cells in itertools.combinations(range(book.size), many):
                    self.assertIs(is_basis(book, list(cells)), list(cells) in found)
                    rest = [cell for cell in range(book.size) if cell not in cells]
                    self.assertIs(is_basis(other, rest), list(cells) in found)
            for basis in found:
                self.check_rows(book, basis)

    def check_rows(self, book, basis):
        """Makes sure that the rows of the basis are the tables with one 1."""
        rows = basis_rows(book, basis)
        self.assertEqual(len(rows), len(basis))
        for cell, row in zip(basis, rows):
            self.assert_numbers(row)
            self.assertIs(is_table(book, row), True)
            self.assertEqual([row[other] for other in basis], [int(other == cell) for other in basis])

    def test_wide_books(self):
        for book in wide_books():
            self.assertIs(is_basis(book, pivots(book)), True)
            self.check_rows(book, pivots(book))
            self.assertIs(is_basis(book, list(range(book.size))), len(book.frame) == book.size)

    def test_repeats_and_any_order(self):
        self.assertIs(is_basis(BOOK, [2, 0, 2]), True)
        self.assertIs(is_basis(BOOK, [2, 2]), False)
        self.assertEqual(basis_rows(BOOK, [2, 1, 2, 1]), [[2, 1, 0], [-2, 0, 1]])
        self.assertEqual(swap(BOOK, [1, 0, 1], [2, 1, 2], 0), 2)

    def test_errors(self):
        for function in (is_basis, basis_rows):
            self.raises_cell(NoCell, 3, function, BOOK, [0, 3, -1])
            self.raises_cell(NoCell, -1, function, BOOK, [-1, 3])
        for cells in ([], [0], [0, 1, 2]):
            self.assertIs(is_basis(BOOK, cells), False)
            self.raises(NotBasis, basis_rows, BOOK, cells)


class Swaps(Case):
    def test_all_swaps_of_many_books(self):
        for book in sample_books(5, 25):
            found = slow_bases(book)
            for first in found:
                for second in found:
                    for cell in first:
                        if cell not in second:
                            self.assertEqual(swap(book, first, second, cell), self.slow_swap(found, first, second, cell))

    def slow_swap(self, found, first, second, cell):
        """Returns the least cell that fits."""
        for other in second:
            changed = [sorted([c for c in first if c != cell] + [other]), sorted([c for c in second if c != other] + [cell])]
            if other not in first and changed[0] in found and changed[1] in found:
                return other
        return None

    def test_a_choice_of_which_the_least_fits(self):
        book = Book(["a", "b", "c", "d"], [[1, 0, 1, 1], [0, 1, 1, -1]])
        self.assertEqual([swap(book, [0, 1], [2, 3], 0), swap(book, [2, 3], [0, 1], 2)], [2, 0])
        for rows in ([[1, 0, 1, 1], [0, 1, 1, 0]], [[1, 0, 0, 1], [0, 1, 1, 1]]):
            self.assertEqual(swap(Book(["a", "b", "c", "d"], rows), [0, 1], [2, 3], 0), 3)
        book = Book(["a", "b", "c", "d"], [[1, 0, 1, 0], [0, 1, 0, 1]])
        self.assertEqual([swap(book, [0, 1], [2, 3], 0), swap(book, [0, 1], [2, 3], 1)], [2, 3])

    def test_the_order_of_the_errors(self):
        self.raises_cell(NoCell, 3, swap, BOOK, [0, 3, 4], [-1], -2)
        self.raises_cell(NoCell, -1, swap, BOOK, [0], [1, -1, 9], -2)
        self.raises_cell(NoCell, -2, swap, BOOK, [0], [1], -2)
        self.raises_cell(NoCell, 3, swap, BOOK, [0], [1], 3)
        self.raises(NotBasis, swap, BOOK, [0], [0, 1], 0)
        self.raises(NotBasis, swap, BOOK, [0, 1], [0, 1, 2], 2)
        self.raises_cell(NoCell, 2, swap, BOOK, [0, 1], [0, 2], 2)
        self.raises_cell(NoCell, 0, swap, BOOK, [0, 1], [0, 2], 0)
        self.raises_cell(NoCell, 0, swap, BOOK, [1, 2], [1, 2], 0)
        self.assertEqual(swap(BOOK, [0, 1], [0, 2], 1), 2)

    def test_wide_books(self):
        book = Book(names(16), [[1] * 16])
        self.assertEqual(swap(book, [15], [3], 15), 3)


if __name__ == "__main__":
    unittest.main()
