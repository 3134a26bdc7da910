"""Points 13, 32 and 33: both sides of a book."""

import random
import unittest

from fineststep.bases import bases, basis_rows
from fineststep.books import Book, is_table, other_side
from fineststep.errors import BadSize, TooWide
from fineststep.sides import common_cells, is_price, price_turnings
from fineststep.turnings import turnings
from helpers import Case, fractions, names, random_rows, random_table, sample_books, slow_turnings, wide_books

BOOK = Book(["a", "b", "c"], [[2, 1, 0], [0, 3, 3]])


class Sides(Case):
    def test_price_turnings(self):
        self.assertEqual(price_turnings(BOOK), [[1, -2, 2]])
        self.assertEqual(price_turnings(Book.free(names(9))), [])
        self.assertEqual(price_turnings(Book(names(2), [])), [[1, 0], [0, 1]])
        for book in sample_books(6, 40):
            self.assertEqual(price_turnings(book), slow_turnings(other_side(book)))

    def test_too_wide(self):
        for book in wide_books():
            self.raises_wide(book.size, TooWide, price_turnings, book)

    def test_is_price(self):
        for numbers in ([0, 0, 0], [1, -2, 2], [(-1, 2), 1, -1], [5, -10, 10]):
            self.assertIs(is_price(BOOK, numbers), True)
        for numbers in ([1, 0, 0], [1, -2, 1], [2, 1, 0], [(1, 2), -1, (1, 2)]):
            self.assertIs(is_price(BOOK, numbers), False)
        for numbers in ([], [0, 0], [0, 0, 0, 0]):
            self.raises(BadSize, is_price, BOOK, numbers)
        self.assertIs(is_price(Book(["a", "b"], []), [(1, 2), 7]), True)
        self.assertIs(is_price(Book.free(["a", "b"]), [0, 1]), False)

    def test_price_rows_of_many_books(self):
        rng = random.Random(21)
        for book in sample_books(7, 40) + wide_books():
            other = other_side(book)
            self.assertIs(is_price(book, random_table(rng, other)), True)
            row = random_rows(rng, 1, book.size)[0]
            dots = [sum(x * y for x, y in zip(fractions(row), line)) for line in book.frame]
            self.assertIs(is_price(book, row), all(value == 0 for value in dots))
            self.assertIs(is_table(other, row), all(value == 0 for value in dots))

    def test_common_cells(self):
        self.assertEqual([common_cells([], []), common_cells([0, 1, (1, 2), 0], [0, 5, (-1, 3), 2])], [[], [1, 2]])
        self.assertEqual(common_cells([1, 0], [0, 1]), [])

    def test_rows_of_bases_of_both_sides(self):
        for book in sample_books(6, 30):
            other = other_side(book)
            for basis in bases(book):
                rest = [cell for cell in range(book.size) if cell not in basis]
                here, there = basis_rows(book, basis), basis_rows(other, rest)
                for k, i in enumerate(basis):
                    for m, j in enumerate(rest):
                        self.assertEqual(fractions(here[k])[j], -fractions(there[m])[i])

    def test_a_turning_and_a_price_turning_never_have_just_one_common_cell(self):
        for book in sample_books(7, 40):
            for row in turnings(book):
                for prices in price_turnings(book):
                    self.assertNotEqual(len(common_cells(row, prices)), 1)
                    self.assertEqual(sum(x * y for x, y in zip(row, prices)), 0)


if __name__ == "__main__":
    unittest.main()
